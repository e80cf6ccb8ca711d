/- PumpApart: one way changes nothing of the other way: the walk. (Written by gen_puapart.py.) -/
import Derived.Test.YtpomeimjgbblmaaPuQ
namespace Go.Proofs.Ytpomeimjgbblmaa
set_option linter.unusedVariables false
set_option maxRecDepth 100000
set_option linter.unusedSimpArgs false
open Go.RowKit

set_option maxRecDepth 100000 in
set_option maxHeartbeats 16000000 in
theorem walk_PumpApart (M : Nat) (A : Option Addr) (L : List OpP) (n c : Nat) (W : World) (hM : M ≤ 255) (h : InP W A L n c) :
    Calls Try.prog 6 #[.int .u8 (M : Int), .slice A n c] W fun e w' => e = .returned (.bool true) ∧ Below W.heap.size W w' := by
  have HI := Lib.hid h
  have hcapn : n ≤ 9223372036854775807 := by have h1 := h.cap; have h2 := h.max; unfold maxLen at h2; omega
  have hwM : IntKind.i64.wrap (M : Int) = (M : Int) := by rw [IntKind.wrap_i64]; omega
  have hm6 : M ≤ 65536 := by omega
  have HMM := Lib.hid (mostM_nat M hm6)
  clear h
  go_enter Try.func6, Try.ntmps6
  go_upto_region 2 with (go_at_call 10; (with_reducible refine (puhead_ok _).mono ?_); rintro e u1 ⟨rfl, hb⟩; have HB1 := Lib.hid hb; clear hb)
  go_upto_region 3 with (go_at_call 11; (with_reducible refine (y_new (M : Int) M HMM.out HB1.out).mono ?_); rintro e u2 ⟨G2, pb, rfl, h1, h2, h3⟩; have HZ2 := Lib.hid h1; clear h1 h2 h3)
  go_upto_region 4 with (go_at_call 11; (with_reducible refine (y_new (M : Int) M HMM.out HZ2.out.l).mono ?_); rintro e u3 ⟨K3, qb, rfl, h1, h2, h3⟩; have HV3 := Lib.hid (show Vq W u3 G2 pb pu0 K3 qb pu0 M from ⟨HZ2.out.on h2, h1, fun y hy hH => absurd (HZ2.out.hi y hy) (Nat.not_lt.2 (h3 y hH))⟩); clear h1 h2 h3)
  have HG := Lib.hid (pugreat_ok A L n c W u3 HI.out HV3.out.z.l)
  go_wp2_with (go_at_call 13; (with_reducible refine HG.out.mono ?_); rintro e uu ⟨⟨v, rfl, hv⟩, hw⟩; rw [hw]; clear hw; cases v)
  all_goals try (go_ret; exact ⟨rfl, HV3.out.z.l⟩)
  have h400 : n ≤ 400 := by simpa using hv
  clear HG hv
  go_loopw [8] (fun v8 wr => ∃ (i : Nat) (p q : Pu) (G K : List Nat), i ≤ n ∧ v8 = .int .i64 (i : Int) ∧ Hid (Vq W wr G pb p K qb q M) ∧ Hid (Gu M p ∧ Fi i p) ∧ Hid (Gu M q ∧ Fi i q) ∧ Hid (Sw p q)) (fun v8 _ => n - (intOf v8).toNat)
  case atStart => exact ⟨0, pu0, pu0, G2, K3, by omega, rfl, HV3, Lib.hid ⟨gu_new M, fi_new⟩, Lib.hid ⟨gu_new M, fi_new⟩, Lib.hid ⟨rfl, rfl, rfl⟩⟩
  case round =>
    obtain ⟨i, p, q, G, K, hi, rfl, HV, HE, HF, HS⟩ := hrel
    by_cases hi1 : i < n
    · have hi2 : (i : Int) < (n : Int) := by omega
      have HFU := Lib.hid (HE.out.2.fu (by omega))
      have HGU := Lib.hid (HF.out.2.fu (by omega))
      obtain ⟨bx, o, op, rfl, hx, hc⟩ := HI.out.at_ i hi1
      obtain ⟨⟨x0, x1, x2, x3⟩, hok⟩ := hc wr HV.out.z.l
      obtain ⟨ow, os, oA, oc, ol, ox⟩ := op
      dsimp only at x0 x1 x2 x3
      obtain ⟨on, hon⟩ : ∃ on, ol.length = on := ⟨_, rfl⟩
      rw [hon] at x2
      have HON := Lib.hid hon
      have HOK := Lib.hid (fun u (hu : Below W.heap.size W u) => (hc u hu).2)
      clear hx hc hok hon
      go_upto_region 10 with fail
      obtain ⟨kb, hkb⟩ : ∃ kb, wr.heap.size = kb := ⟨_, rfl⟩
      obtain ⟨v, hv⟩ : ∃ v, wr.alloc (.cells #[.int .i64 ow, .int .i64 os, .slice oA on oc, .int .i64 ox] 31) = v := ⟨_, rfl⟩
      have hbv : Below wr.heap.size wr v := by rw [← hv]; exact (Below.refl _ _).alloc (Nat.le_refl _) _
      have HB := Lib.hid (show Bz v (G ++ K) kb 31 #[.int .i64 ow, .int .i64 os, .slice oA on oc, .int .i64 ox] by rw [← hv, ← hkb]; exact Bz.new HV.out.hi _ _)
      have HVv := Lib.hid (HV.out.on hbv)
      try rw [hv]
      try rw [hkb]
      clear hv hkb hbv x0 x1 x2 x3
      have e0 : v.cell? ⟨kb, 0, none⟩ = some (.int .i64 ow) := HB.out.b.cell 0
      have e1 : v.cell? ⟨kb, 1, none⟩ = some (.int .i64 os) := HB.out.b.cell 1
      have e2 : v.cell? ⟨kb, 2, none⟩ = some (.slice oA on oc) := HB.out.b.cell 2
      have e3 : v.cell? ⟨kb, 3, none⟩ = some (.int .i64 ox) := HB.out.b.cell 3
      by_cases hs0 : os = 0
      · subst hs0
        by_cases h2 : ow = 2
        · subst h2
          obtain ⟨⟨⟨l, b⟩, p2⟩, hR⟩ : ∃ R, outP p 0 ox = R := ⟨_, rfl⟩
          have HRE := Lib.hid hR
          have HE2 := Lib.hid (show Gu M p2 ∧ Fi (i + 1) p2 from ⟨gu_out2 HE.out.1 hR, fi_out HE.out.2 HE.out.1 hm6 hR⟩)
          have HS2 := Lib.hid (HS.out.out0 hR)
          have HF2 := Lib.hid (show Gu M q ∧ Fi (i + 1) q from ⟨HF.out.1, HF.out.2.of rfl rfl⟩)
          obtain ⟨t, ht⟩ : ∃ t, l.length = t := ⟨_, rfl⟩
          have HT := Lib.hid ht
          clear hR ht
          go_upto_region 14 with (go_at_call 14; (with_reducible refine (y_out HVv.out.z HE.out.1 hm6 HFU.out 0 ox t l b p2 HRE.out HT.out).mono ?_); rintro e u4 ⟨G5, A4, c4, rfl, h0, h1, h2⟩; have HV4 := Lib.hid (HVv.out.left h2 h1); have HB4 := Lib.hid (HB.out.step (h2.left K)); have HX4 := Lib.hid (h0.rf (G := G5 ++ K) (fun y hy => by rcases List.mem_append.1 hy with e | e; exact .inl e; exact .inr (HVv.out.y.hi y e))); clear h0 h1 h2)
          clear e0 e1 e2 e3
          obtain ⟨u5, hu5⟩ : ∃ u5, u4 = u5 := ⟨_, rfl⟩
          subst hu5
          have HV5 := HV4
          obtain ⟨a1, ha1⟩ : ∃ a, wtP p2 1 = a := ⟨_, rfl⟩
          obtain ⟨a2, ha2⟩ : ∃ a, rmP M p2 0 = a := ⟨_, rfl⟩
          obtain ⟨a3, ha3⟩ : ∃ a, mvP p2 1 = a := ⟨_, rfl⟩
          have HA := Lib.hid (And.intro ha1 (And.intro ha2 ha3))
          have HQ := Lib.hid (show wtP q 1 = a1 ∧ rmP M q 0 = a2 ∧ mvP q 1 = a3 from ⟨(HS2.out.tells M).1.trans ha1, (HS2.out.tells M).2.1.trans ha2, (HS2.out.tells M).2.2.trans ha3⟩)
          have n1 : ((a1 : Int) != (a1 : Int)) = false := by simp
          have n2 : ((a2 : Int) != (a2 : Int)) = false := by simp
          have n3 : (a3 != a3) = false := by simp
          clear ha1 ha2 ha3
          go_upto_region 25 with fail
          go_wp2_with (first
            | (go_at_call 22; (with_reducible refine (y_waits HV5.out.z HE2.out.1 hm6 1 a1 HA.out.1).mono ?_); rintro e y1 ⟨rfl, h1⟩; have HVa := Lib.hid (HV5.out.on h1); clear h1)
            | (go_at_call 22; (with_reducible refine (y_waits HVa.out.y HF2.out.1 hm6 1 a1 HQ.out.1).mono ?_); rintro e y2 ⟨rfl, h1⟩; have HVb := Lib.hid (HVa.out.on h1); clear h1)
            | (go_at_call 24; (with_reducible refine (y_room HVb.out.z HE2.out.1 hm6 0 a2 HA.out.2.1).mono ?_); rintro e y3 ⟨rfl, h1⟩; have HVc := Lib.hid (HVb.out.on h1); clear h1)
            | (go_at_call 24; (with_reducible refine (y_room HVc.out.y HF2.out.1 hm6 0 a2 HQ.out.2.1).mono ?_); rintro e y4 ⟨rfl, h1⟩; have HVd := Lib.hid (HVc.out.on h1); clear h1)
            | (go_at_call 26; (with_reducible refine (y_moved HVd.out.z 1 a3 HA.out.2.2).mono ?_); rintro e y5 ⟨rfl, h1⟩; have HVe := Lib.hid (HVd.out.on h1); clear h1)
            | (go_at_call 26; (with_reducible refine (y_moved HVe.out.y 1 a3 HQ.out.2.2).mono ?_); rintro e y6 ⟨rfl, h1⟩; have HVf := Lib.hid (HVe.out.on h1); clear h1))
          go_roundw
          case rel => exact ⟨i + 1, p2, q, G5, K, by omega, by go_num, HVf, HE2, HF2, HS2⟩
          case measure => simp [intOf] <;> omega
        · have h2b : (ow == 2) = false := by simp [h2]
          have h2c : (ow != 2) = true := by simp [h2]
          clear h2
          by_cases h3 : ow = 3
          · subst h3
            obtain ⟨⟨b, p2⟩, hR⟩ : ∃ R, endP p 0 = R := ⟨_, rfl⟩
            have HRE := Lib.hid hR
            have HE2 := Lib.hid (show Gu M p2 ∧ Fi (i + 1) p2 from ⟨gu_end2 HE.out.1 hR, fi_end HE.out.2 hR⟩)
            obtain ⟨q2, hq, hsw⟩ := HS.out.end0 hR
            have HQE := Lib.hid hq
            have HS2 := Lib.hid hsw
            have HF2 := Lib.hid (show Gu M q2 ∧ Fi (i + 1) q2 from ⟨gu_end2 HF.out.1 hq, fi_end HF.out.2 hq⟩)
            clear hq hsw
            clear hR
            go_upto_region 20 with (go_at_call 16; (with_reducible refine (y_end HVv.out.z 0 b p2 HRE.out).mono ?_); rintro e u4 ⟨G5, rfl, h1, h2⟩; have HV4 := Lib.hid (HVv.out.left h2 h1); have HB4 := Lib.hid (HB.out.step (h2.left K)); clear h1 h2)
            clear e0 e1 e2 e3
            have e1 : u4.cell? ⟨kb, 1, none⟩ = some (.int .i64 0) := HB4.out.b.cell 1
            have m2 : (b != b) = false := by cases b <;> rfl
            go_upto_region 25 with (go_at_call 16; (with_reducible refine (y_end HV4.out.y 0 b q2 HQE.out).mono ?_); rintro e u5 ⟨K5, rfl, h1, h2⟩; have HV5 := Lib.hid (HV4.out.right h2 h1); clear h1 h2)
            clear e1
            obtain ⟨a1, ha1⟩ : ∃ a, wtP p2 1 = a := ⟨_, rfl⟩
            obtain ⟨a2, ha2⟩ : ∃ a, rmP M p2 0 = a := ⟨_, rfl⟩
            obtain ⟨a3, ha3⟩ : ∃ a, mvP p2 1 = a := ⟨_, rfl⟩
            have HA := Lib.hid (And.intro ha1 (And.intro ha2 ha3))
            have HQ := Lib.hid (show wtP q2 1 = a1 ∧ rmP M q2 0 = a2 ∧ mvP q2 1 = a3 from ⟨(HS2.out.tells M).1.trans ha1, (HS2.out.tells M).2.1.trans ha2, (HS2.out.tells M).2.2.trans ha3⟩)
            have n1 : ((a1 : Int) != (a1 : Int)) = false := by simp
            have n2 : ((a2 : Int) != (a2 : Int)) = false := by simp
            have n3 : (a3 != a3) = false := by simp
            clear ha1 ha2 ha3
            skip
            go_wp2_with (first
              | (go_at_call 22; (with_reducible refine (y_waits HV5.out.z HE2.out.1 hm6 1 a1 HA.out.1).mono ?_); rintro e y1 ⟨rfl, h1⟩; have HVa := Lib.hid (HV5.out.on h1); clear h1)
              | (go_at_call 22; (with_reducible refine (y_waits HVa.out.y HF2.out.1 hm6 1 a1 HQ.out.1).mono ?_); rintro e y2 ⟨rfl, h1⟩; have HVb := Lib.hid (HVa.out.on h1); clear h1)
              | (go_at_call 24; (with_reducible refine (y_room HVb.out.z HE2.out.1 hm6 0 a2 HA.out.2.1).mono ?_); rintro e y3 ⟨rfl, h1⟩; have HVc := Lib.hid (HVb.out.on h1); clear h1)
              | (go_at_call 24; (with_reducible refine (y_room HVc.out.y HF2.out.1 hm6 0 a2 HQ.out.2.1).mono ?_); rintro e y4 ⟨rfl, h1⟩; have HVd := Lib.hid (HVc.out.on h1); clear h1)
              | (go_at_call 26; (with_reducible refine (y_moved HVd.out.z 1 a3 HA.out.2.2).mono ?_); rintro e y5 ⟨rfl, h1⟩; have HVe := Lib.hid (HVd.out.on h1); clear h1)
              | (go_at_call 26; (with_reducible refine (y_moved HVe.out.y 1 a3 HQ.out.2.2).mono ?_); rintro e y6 ⟨rfl, h1⟩; have HVf := Lib.hid (HVe.out.on h1); clear h1))
            go_roundw
            case rel => exact ⟨i + 1, p2, q2, G5, K5, by omega, by go_num, HVf, HE2, HF2, HS2⟩
            case measure => simp [intOf] <;> omega
          · have h3b : (ow == 3) = false := by simp [h3]
            clear h3
            by_cases h4 : ow = 4
            · subst h4
              go_wp2_with fail
              go_roundw
              case rel => exact ⟨i + 1, p, q, G, K, by omega, by go_num, HVv, Lib.hid ⟨HE.out.1, HE.out.2.of rfl rfl⟩, Lib.hid ⟨HF.out.1, HF.out.2.of rfl rfl⟩, HS⟩
              case measure => simp [intOf] <;> omega
            · have h4b : (ow == 4) = false := by simp [h4]
              clear h4
              obtain ⟨⟨r, p2⟩, hR⟩ : ∃ R, inP M p 0 ol = R := ⟨_, rfl⟩
              have HRE := Lib.hid hR
              have HE2 := Lib.hid (show Gu M p2 ∧ Fi (i + 1) p2 from ⟨gu_in2 HE.out.1 hR, fi_in HE.out.2 hR⟩)
              obtain ⟨q2, hq, hsw⟩ := HS.out.in0 hR
              have HQE := Lib.hid hq
              have HS2 := Lib.hid hsw
              have HF2 := Lib.hid (show Gu M q2 ∧ Fi (i + 1) q2 from ⟨gu_in2 HF.out.1 hq, fi_in HF.out.2 hq⟩)
              clear hq hsw
              clear hR
              have HOW := Lib.hid (HOK.out v HVv.out.z.l)
              go_upto_region 23 with (go_at_call 20; (with_reducible refine (y_in HVv.out.z HE.out.1 hm6 0 oA on oc ol HON.out (HON.out ▸ HOW.out.cap) HOW.out.max (fun hh => HON.out ▸ HOW.out.nil_ hh) (HOW.out.rb.rf HVv.out.z.lo) r p2 HRE.out).mono ?_); rintro e u4 ⟨G5, rfl, h1, h2⟩; have HV4 := Lib.hid (HVv.out.left h2 h1); have HB4 := Lib.hid (HB.out.step (h2.left K)); clear h1 h2)
              clear e0 e1 e2 e3 HOW
              have e0 : u4.cell? ⟨kb, 0, none⟩ = some (.int .i64 ow) := HB4.out.b.cell 0
              have e1 : u4.cell? ⟨kb, 1, none⟩ = some (.int .i64 0) := HB4.out.b.cell 1
              have e2 : u4.cell? ⟨kb, 2, none⟩ = some (.slice oA on oc) := HB4.out.b.cell 2
              have e3 : u4.cell? ⟨kb, 3, none⟩ = some (.int .i64 ox) := HB4.out.b.cell 3
              have HOW := Lib.hid (HOK.out u4 HV4.out.z.l)
              have m2 : ((r : Int) != (r : Int)) = false := by simp
              go_upto_region 25 with (go_at_call 20; (with_reducible refine (y_in HV4.out.y HF.out.1 hm6 0 oA on oc ol HON.out (HON.out ▸ HOW.out.cap) HOW.out.max (fun hh => HON.out ▸ HOW.out.nil_ hh) (HOW.out.rb.rf HV4.out.y.lo) r q2 HQE.out).mono ?_); rintro e u5 ⟨K5, rfl, h1, h2⟩; have HV5 := Lib.hid (HV4.out.right h2 h1); clear h1 h2)
              clear e0 e1 e2 e3
              obtain ⟨a1, ha1⟩ : ∃ a, wtP p2 1 = a := ⟨_, rfl⟩
              obtain ⟨a2, ha2⟩ : ∃ a, rmP M p2 0 = a := ⟨_, rfl⟩
              obtain ⟨a3, ha3⟩ : ∃ a, mvP p2 1 = a := ⟨_, rfl⟩
              have HA := Lib.hid (And.intro ha1 (And.intro ha2 ha3))
              have HQ := Lib.hid (show wtP q2 1 = a1 ∧ rmP M q2 0 = a2 ∧ mvP q2 1 = a3 from ⟨(HS2.out.tells M).1.trans ha1, (HS2.out.tells M).2.1.trans ha2, (HS2.out.tells M).2.2.trans ha3⟩)
              have n1 : ((a1 : Int) != (a1 : Int)) = false := by simp
              have n2 : ((a2 : Int) != (a2 : Int)) = false := by simp
              have n3 : (a3 != a3) = false := by simp
              clear ha1 ha2 ha3
              skip
              go_wp2_with (first
                | (go_at_call 22; (with_reducible refine (y_waits HV5.out.z HE2.out.1 hm6 1 a1 HA.out.1).mono ?_); rintro e y1 ⟨rfl, h1⟩; have HVa := Lib.hid (HV5.out.on h1); clear h1)
                | (go_at_call 22; (with_reducible refine (y_waits HVa.out.y HF2.out.1 hm6 1 a1 HQ.out.1).mono ?_); rintro e y2 ⟨rfl, h1⟩; have HVb := Lib.hid (HVa.out.on h1); clear h1)
                | (go_at_call 24; (with_reducible refine (y_room HVb.out.z HE2.out.1 hm6 0 a2 HA.out.2.1).mono ?_); rintro e y3 ⟨rfl, h1⟩; have HVc := Lib.hid (HVb.out.on h1); clear h1)
                | (go_at_call 24; (with_reducible refine (y_room HVc.out.y HF2.out.1 hm6 0 a2 HQ.out.2.1).mono ?_); rintro e y4 ⟨rfl, h1⟩; have HVd := Lib.hid (HVc.out.on h1); clear h1)
                | (go_at_call 26; (with_reducible refine (y_moved HVd.out.z 1 a3 HA.out.2.2).mono ?_); rintro e y5 ⟨rfl, h1⟩; have HVe := Lib.hid (HVd.out.on h1); clear h1)
                | (go_at_call 26; (with_reducible refine (y_moved HVe.out.y 1 a3 HQ.out.2.2).mono ?_); rintro e y6 ⟨rfl, h1⟩; have HVf := Lib.hid (HVe.out.on h1); clear h1))
              go_roundw
              case rel => exact ⟨i + 1, p2, q2, G5, K5, by omega, by go_num, HVf, HE2, HF2, HS2⟩
              case measure => simp [intOf] <;> omega
      · by_cases hs1 : os = 1
        · subst hs1
          by_cases h2 : ow = 2
          · subst h2
            obtain ⟨⟨⟨l, b⟩, p2⟩, hR⟩ : ∃ R, outP p 1 ox = R := ⟨_, rfl⟩
            have HRE := Lib.hid hR
            have HE2 := Lib.hid (show Gu M p2 ∧ Fi (i + 1) p2 from ⟨gu_out2 HE.out.1 hR, fi_out HE.out.2 HE.out.1 hm6 hR⟩)
            obtain ⟨q2, hq, hsw⟩ := HS.out.out1 hR
            have HQE := Lib.hid hq
            have HS2 := Lib.hid hsw
            have HF2 := Lib.hid (show Gu M q2 ∧ Fi (i + 1) q2 from ⟨gu_out2 HF.out.1 hq, fi_out HF.out.2 HF.out.1 hm6 hq⟩)
            clear hq hsw
            obtain ⟨t, ht⟩ : ∃ t, l.length = t := ⟨_, rfl⟩
            have HT := Lib.hid ht
            clear hR ht
            go_upto_region 14 with (go_at_call 14; (with_reducible refine (y_out HVv.out.z HE.out.1 hm6 HFU.out 1 ox t l b p2 HRE.out HT.out).mono ?_); rintro e u4 ⟨G5, A4, c4, rfl, h0, h1, h2⟩; have HV4 := Lib.hid (HVv.out.left h2 h1); have HB4 := Lib.hid (HB.out.step (h2.left K)); have HX4 := Lib.hid (h0.rf (G := G5 ++ K) (fun y hy => by rcases List.mem_append.1 hy with e | e; exact .inl e; exact .inr (HVv.out.y.hi y e))); clear h0 h1 h2)
            clear e0 e1 e2 e3
            have e0 : u4.cell? ⟨kb, 0, none⟩ = some (.int .i64 2) := HB4.out.b.cell 0
            have e1 : u4.cell? ⟨kb, 1, none⟩ = some (.int .i64 1) := HB4.out.b.cell 1
            have e2 : u4.cell? ⟨kb, 2, none⟩ = some (.slice oA on oc) := HB4.out.b.cell 2
            have e3 : u4.cell? ⟨kb, 3, none⟩ = some (.int .i64 ox) := HB4.out.b.cell 3
            obtain ⟨S, hS⟩ : ∃ S : ByteArray, (⟨l.toArray⟩ : ByteArray) = S := ⟨_, rfl⟩
            have HS9 := Lib.hid hS
            have m1 : (S.toList != S.toList) = false := by simp
            have m2 : (b != b) = false := by cases b <;> rfl
            clear hS
            go_upto_region 16 with (go_at_call 14; (with_reducible refine (y_out HV4.out.y HF.out.1 hm6 HGU.out 1 ox t l b q2 HQE.out HT.out).mono ?_); rintro e u5 ⟨K5, A5, c5, rfl, h0, h1, h2⟩; have HV5 := Lib.hid (HV4.out.right h2 h1); have HX5 := Lib.hid (HX4.out.step (h2.right G5)); have HY5 := Lib.hid (h0.rf (G := K5) (fun y hy => .inl hy)); clear h0 h1 h2)
            clear e0 e1 e2 e3
            have q4 := str_of (P := Try.prog) HX5.out.rb 29 5 9 Try.underlying29 Try.underlying5 Try.underlying9 t c4 HT.out
            have q5 := str_of (P := Try.prog) HY5.out.rb 29 5 9 Try.underlying29 Try.underlying5 Try.underlying9 t c5 HT.out
            rw [HS9.out] at q4 q5
            obtain ⟨a1, ha1⟩ : ∃ a, wtP p2 1 = a := ⟨_, rfl⟩
            obtain ⟨a2, ha2⟩ : ∃ a, rmP M p2 0 = a := ⟨_, rfl⟩
            obtain ⟨a3, ha3⟩ : ∃ a, mvP p2 1 = a := ⟨_, rfl⟩
            have HA := Lib.hid (And.intro ha1 (And.intro ha2 ha3))
            have HQ := Lib.hid (show wtP q2 1 = a1 ∧ rmP M q2 0 = a2 ∧ mvP q2 1 = a3 from ⟨(HS2.out.tells M).1.trans ha1, (HS2.out.tells M).2.1.trans ha2, (HS2.out.tells M).2.2.trans ha3⟩)
            have n1 : ((a1 : Int) != (a1 : Int)) = false := by simp
            have n2 : ((a2 : Int) != (a2 : Int)) = false := by simp
            have n3 : (a3 != a3) = false := by simp
            clear ha1 ha2 ha3
            go_upto_region 25 with fail
            go_wp2_with (first
              | (go_at_call 22; (with_reducible refine (y_waits HV5.out.z HE2.out.1 hm6 1 a1 HA.out.1).mono ?_); rintro e y1 ⟨rfl, h1⟩; have HVa := Lib.hid (HV5.out.on h1); clear h1)
              | (go_at_call 22; (with_reducible refine (y_waits HVa.out.y HF2.out.1 hm6 1 a1 HQ.out.1).mono ?_); rintro e y2 ⟨rfl, h1⟩; have HVb := Lib.hid (HVa.out.on h1); clear h1)
              | (go_at_call 24; (with_reducible refine (y_room HVb.out.z HE2.out.1 hm6 0 a2 HA.out.2.1).mono ?_); rintro e y3 ⟨rfl, h1⟩; have HVc := Lib.hid (HVb.out.on h1); clear h1)
              | (go_at_call 24; (with_reducible refine (y_room HVc.out.y HF2.out.1 hm6 0 a2 HQ.out.2.1).mono ?_); rintro e y4 ⟨rfl, h1⟩; have HVd := Lib.hid (HVc.out.on h1); clear h1)
              | (go_at_call 26; (with_reducible refine (y_moved HVd.out.z 1 a3 HA.out.2.2).mono ?_); rintro e y5 ⟨rfl, h1⟩; have HVe := Lib.hid (HVd.out.on h1); clear h1)
              | (go_at_call 26; (with_reducible refine (y_moved HVe.out.y 1 a3 HQ.out.2.2).mono ?_); rintro e y6 ⟨rfl, h1⟩; have HVf := Lib.hid (HVe.out.on h1); clear h1))
            go_roundw
            case rel => exact ⟨i + 1, p2, q2, G5, K5, by omega, by go_num, HVf, HE2, HF2, HS2⟩
            case measure => simp [intOf] <;> omega
          · have h2b : (ow == 2) = false := by simp [h2]
            have h2c : (ow != 2) = true := by simp [h2]
            clear h2
            by_cases h3 : ow = 3
            · subst h3
              obtain ⟨⟨b, p2⟩, hR⟩ : ∃ R, endP p 1 = R := ⟨_, rfl⟩
              have HRE := Lib.hid hR
              have HE2 := Lib.hid (show Gu M p2 ∧ Fi (i + 1) p2 from ⟨gu_end2 HE.out.1 hR, fi_end HE.out.2 hR⟩)
              have HS2 := Lib.hid (HS.out.end1 hR)
              have HF2 := Lib.hid (show Gu M q ∧ Fi (i + 1) q from ⟨HF.out.1, HF.out.2.of rfl rfl⟩)
              clear hR
              go_upto_region 20 with (go_at_call 16; (with_reducible refine (y_end HVv.out.z 1 b p2 HRE.out).mono ?_); rintro e u4 ⟨G5, rfl, h1, h2⟩; have HV4 := Lib.hid (HVv.out.left h2 h1); have HB4 := Lib.hid (HB.out.step (h2.left K)); clear h1 h2)
              clear e0 e1 e2 e3
              have HV5 := HV4
              obtain ⟨a1, ha1⟩ : ∃ a, wtP p2 1 = a := ⟨_, rfl⟩
              obtain ⟨a2, ha2⟩ : ∃ a, rmP M p2 0 = a := ⟨_, rfl⟩
              obtain ⟨a3, ha3⟩ : ∃ a, mvP p2 1 = a := ⟨_, rfl⟩
              have HA := Lib.hid (And.intro ha1 (And.intro ha2 ha3))
              have HQ := Lib.hid (show wtP q 1 = a1 ∧ rmP M q 0 = a2 ∧ mvP q 1 = a3 from ⟨(HS2.out.tells M).1.trans ha1, (HS2.out.tells M).2.1.trans ha2, (HS2.out.tells M).2.2.trans ha3⟩)
              have n1 : ((a1 : Int) != (a1 : Int)) = false := by simp
              have n2 : ((a2 : Int) != (a2 : Int)) = false := by simp
              have n3 : (a3 != a3) = false := by simp
              clear ha1 ha2 ha3
              go_upto_region 25 with fail
              go_wp2_with (first
                | (go_at_call 22; (with_reducible refine (y_waits HV5.out.z HE2.out.1 hm6 1 a1 HA.out.1).mono ?_); rintro e y1 ⟨rfl, h1⟩; have HVa := Lib.hid (HV5.out.on h1); clear h1)
                | (go_at_call 22; (with_reducible refine (y_waits HVa.out.y HF2.out.1 hm6 1 a1 HQ.out.1).mono ?_); rintro e y2 ⟨rfl, h1⟩; have HVb := Lib.hid (HVa.out.on h1); clear h1)
                | (go_at_call 24; (with_reducible refine (y_room HVb.out.z HE2.out.1 hm6 0 a2 HA.out.2.1).mono ?_); rintro e y3 ⟨rfl, h1⟩; have HVc := Lib.hid (HVb.out.on h1); clear h1)
                | (go_at_call 24; (with_reducible refine (y_room HVc.out.y HF2.out.1 hm6 0 a2 HQ.out.2.1).mono ?_); rintro e y4 ⟨rfl, h1⟩; have HVd := Lib.hid (HVc.out.on h1); clear h1)
                | (go_at_call 26; (with_reducible refine (y_moved HVd.out.z 1 a3 HA.out.2.2).mono ?_); rintro e y5 ⟨rfl, h1⟩; have HVe := Lib.hid (HVd.out.on h1); clear h1)
                | (go_at_call 26; (with_reducible refine (y_moved HVe.out.y 1 a3 HQ.out.2.2).mono ?_); rintro e y6 ⟨rfl, h1⟩; have HVf := Lib.hid (HVe.out.on h1); clear h1))
              go_roundw
              case rel => exact ⟨i + 1, p2, q, G5, K, by omega, by go_num, HVf, HE2, HF2, HS2⟩
              case measure => simp [intOf] <;> omega
            · have h3b : (ow == 3) = false := by simp [h3]
              clear h3
              by_cases h4 : ow = 4
              · subst h4
                go_wp2_with fail
                go_roundw
                case rel => exact ⟨i + 1, p, q, G, K, by omega, by go_num, HVv, Lib.hid ⟨HE.out.1, HE.out.2.of rfl rfl⟩, Lib.hid ⟨HF.out.1, HF.out.2.of rfl rfl⟩, HS⟩
                case measure => simp [intOf] <;> omega
              · have h4b : (ow == 4) = false := by simp [h4]
                clear h4
                obtain ⟨⟨r, p2⟩, hR⟩ : ∃ R, inP M p 1 ol = R := ⟨_, rfl⟩
                have HRE := Lib.hid hR
                have HE2 := Lib.hid (show Gu M p2 ∧ Fi (i + 1) p2 from ⟨gu_in2 HE.out.1 hR, fi_in HE.out.2 hR⟩)
                have HS2 := Lib.hid (HS.out.in1 hR)
                have HF2 := Lib.hid (show Gu M q ∧ Fi (i + 1) q from ⟨HF.out.1, HF.out.2.of rfl rfl⟩)
                clear hR
                have HOW := Lib.hid (HOK.out v HVv.out.z.l)
                go_upto_region 23 with (go_at_call 20; (with_reducible refine (y_in HVv.out.z HE.out.1 hm6 1 oA on oc ol HON.out (HON.out ▸ HOW.out.cap) HOW.out.max (fun hh => HON.out ▸ HOW.out.nil_ hh) (HOW.out.rb.rf HVv.out.z.lo) r p2 HRE.out).mono ?_); rintro e u4 ⟨G5, rfl, h1, h2⟩; have HV4 := Lib.hid (HVv.out.left h2 h1); have HB4 := Lib.hid (HB.out.step (h2.left K)); clear h1 h2)
                clear e0 e1 e2 e3 HOW
                have HV5 := HV4
                obtain ⟨a1, ha1⟩ : ∃ a, wtP p2 1 = a := ⟨_, rfl⟩
                obtain ⟨a2, ha2⟩ : ∃ a, rmP M p2 0 = a := ⟨_, rfl⟩
                obtain ⟨a3, ha3⟩ : ∃ a, mvP p2 1 = a := ⟨_, rfl⟩
                have HA := Lib.hid (And.intro ha1 (And.intro ha2 ha3))
                have HQ := Lib.hid (show wtP q 1 = a1 ∧ rmP M q 0 = a2 ∧ mvP q 1 = a3 from ⟨(HS2.out.tells M).1.trans ha1, (HS2.out.tells M).2.1.trans ha2, (HS2.out.tells M).2.2.trans ha3⟩)
                have n1 : ((a1 : Int) != (a1 : Int)) = false := by simp
                have n2 : ((a2 : Int) != (a2 : Int)) = false := by simp
                have n3 : (a3 != a3) = false := by simp
                clear ha1 ha2 ha3
                go_upto_region 25 with fail
                go_wp2_with (first
                  | (go_at_call 22; (with_reducible refine (y_waits HV5.out.z HE2.out.1 hm6 1 a1 HA.out.1).mono ?_); rintro e y1 ⟨rfl, h1⟩; have HVa := Lib.hid (HV5.out.on h1); clear h1)
                  | (go_at_call 22; (with_reducible refine (y_waits HVa.out.y HF2.out.1 hm6 1 a1 HQ.out.1).mono ?_); rintro e y2 ⟨rfl, h1⟩; have HVb := Lib.hid (HVa.out.on h1); clear h1)
                  | (go_at_call 24; (with_reducible refine (y_room HVb.out.z HE2.out.1 hm6 0 a2 HA.out.2.1).mono ?_); rintro e y3 ⟨rfl, h1⟩; have HVc := Lib.hid (HVb.out.on h1); clear h1)
                  | (go_at_call 24; (with_reducible refine (y_room HVc.out.y HF2.out.1 hm6 0 a2 HQ.out.2.1).mono ?_); rintro e y4 ⟨rfl, h1⟩; have HVd := Lib.hid (HVc.out.on h1); clear h1)
                  | (go_at_call 26; (with_reducible refine (y_moved HVd.out.z 1 a3 HA.out.2.2).mono ?_); rintro e y5 ⟨rfl, h1⟩; have HVe := Lib.hid (HVd.out.on h1); clear h1)
                  | (go_at_call 26; (with_reducible refine (y_moved HVe.out.y 1 a3 HQ.out.2.2).mono ?_); rintro e y6 ⟨rfl, h1⟩; have HVf := Lib.hid (HVe.out.on h1); clear h1))
                go_roundw
                case rel => exact ⟨i + 1, p2, q, G5, K, by omega, by go_num, HVf, HE2, HF2, HS2⟩
                case measure => simp [intOf] <;> omega
        · have z0 : (os != 0) = true := by simp [hs0]
          have z1 : (os != 1) = true := by simp [hs1]
          clear hs0 hs1
          go_wp2_with fail
          go_roundw
          case rel => exact ⟨i + 1, p, q, G, K, by omega, by go_num, HVv, Lib.hid ⟨HE.out.1, HE.out.2.of rfl rfl⟩, Lib.hid ⟨HF.out.1, HF.out.2.of rfl rfl⟩, HS⟩
          case measure => simp [intOf] <;> omega
    · have hi2 : ¬ (i : Int) < (n : Int) := by omega
      go_wp2_with fail
      go_ret
      exact ⟨rfl, HV.out.z.l⟩
end Go.Proofs.Ytpomeimjgbblmaa
