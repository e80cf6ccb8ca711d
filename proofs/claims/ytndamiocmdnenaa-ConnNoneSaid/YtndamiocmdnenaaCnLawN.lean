/- ConnNone: of a number that is no connection's all is nothing: the walk. (Written by gen_cnnone.py.) -/
import Derived.Test.YtndamiocmdnenaaCnH
import Derived.Test.YtndamiocmdnenaaCnNone
import Derived.Test.YtndamiocmdnenaaOpen
namespace Go.Proofs.Ytndamiocmdnenaa
set_option linter.unusedVariables false
set_option maxRecDepth 100000
set_option linter.unusedSimpArgs false
open Go.RowKit

set_option maxRecDepth 100000 in
set_option maxHeartbeats 16000000 in
theorem walk_ConnNone (A : Option Addr) (L : List OpC) (n c : Nat) (id : Int) (A' : Option Addr) (l : List UInt8) (m c' : Nat) (x : Int) (W : World) (h : InCn W A L n c) (hid : WfN id) (hB : InB W A' l m c') (hx : WfN x) :
    Calls Try.prog 8 #[.slice A n c, .int .i64 id, .slice A' m c', .int .i64 x] W fun e w' => e = .returned (.bool true) ∧ Below W.heap.size W w' := by
  have HI := Lib.hid h
  have hcapn : n ≤ 9223372036854775807 := by have h1 := h.cap; have h2 := h.max; unfold maxLen at h2; omega
  clear h
  have HB := Lib.hid hB
  have HID := Lib.hid hid
  have hcapm : m ≤ 9223372036854775807 := by have h1 := hB.cap; have h2 := hB.max; unfold maxLen at h2; omega
  clear hB hid hx
  go_enter Try.func8, Try.ntmps8
  go_upto_region 2 with (go_at_call 10; (with_reducible refine (cnhead_ok _).mono ?_); rintro e u1 ⟨rfl, hb⟩; have HB1 := Lib.hid hb; clear hb)
  go_upto_region 3 with (go_at_call 11; (with_reducible refine (c_new HB1.out).mono ?_); rintro e u2 ⟨G2, tb, rfl, h1, h2, h3⟩; have HZ2 := Lib.hid h1; clear h1 h2 h3)
  go_upto_region 4 with (go_at_call 12; (with_reducible refine (cngreat_ok A L n c W _ HI.out HZ2.out.l).mono ?_); rintro e uu ⟨⟨v, rfl, hv⟩, hw⟩; rw [hw]; clear hw; cases v)
  all_goals try (go_wp2_with fail; go_ret; exact ⟨rfl, HZ2.out.l⟩)
  have h400 : n ≤ 400 := by simpa using hv
  clear hv
  go_loopw [11] (fun v11 wr => ∃ (i : Nat) (t : Tc) (G : List Nat), i ≤ n ∧ v11 = .int .i64 (i : Int) ∧ Hid (Zc W wr G tb t) ∧ Hid (Gc t ∧ t.la ≤ i)) (fun v11 _ => n - (intOf v11).toNat)
  case atStart => exact ⟨0, tc0, G2, by omega, rfl, HZ2, Lib.hid ⟨gc_new, by decide⟩⟩
  case round =>
    obtain ⟨i, t, G, hi, rfl, HZ, HG⟩ := hrel
    by_cases hi1 : i < n
    · have hi2 : (i : Int) < (n : Int) := by omega
      obtain ⟨bx, o, op, rfl, hx, hwf, hc⟩ := HI.out.at_ i hi1
      have HWI := Lib.hid hwf.1
      have HWX := Lib.hid hwf.2.1
      obtain ⟨⟨x0, x1, x2, x3⟩, hok⟩ := hc wr HZ.out.l
      obtain ⟨ow, oi, ox, oA, oc, ol⟩ := op
      dsimp only at x0 x1 x2 x3
      obtain ⟨on, hon⟩ : ∃ on, ol.length = on := ⟨_, rfl⟩
      rw [hon] at x3
      have HON := Lib.hid hon
      have HOK := Lib.hid (fun u (hu : Below W.heap.size W u) => (hc u hu).2)
      have HOX := Lib.hid hx
      clear hx hc hok hon hwf
      have HDO := Lib.hid (does_ok HZ.out HG.out.1 (by have := HG.out.2; omega) ⟨ow, oi, ox, oA, oc, ol⟩ on HON.out HWI.out (HOK.out wr HZ.out.l))
      have HG2 := Lib.hid (show Gc (doC t ⟨ow, oi, ox, oA, oc, ol⟩) ∧ (doC t ⟨ow, oi, ox, oA, oc, ol⟩).la ≤ i + 1 from ⟨gc_do HG.out.1 _, Nat.le_trans (la_do t _) (by have := HG.out.2; omega)⟩)
      go_wp2_with (go_at_call 17; (with_reducible refine HDO.out.mono ?_); rintro e w3 ⟨G3, rfl, h1, h2⟩; have HZ3 := Lib.hid h1; clear h1 h2)
      go_roundw
      case rel => exact ⟨i + 1, _, G3, by omega, by go_num, HZ3, HG2⟩
      case measure => simp [intOf] <;> omega
    · have hi2 : ¬ (i : Int) < (n : Int) := by omega
      obtain ⟨hs, hhs⟩ : ∃ hs, hsC t id = hs := ⟨_, rfl⟩
      have HHS := Lib.hid hhs
      clear hhs
      cases hs with
      | true =>
        go_wp2_with (go_at_call 15; (with_reducible refine (c_has HZ.out id true HHS.out HID.out).mono ?_); rintro e w3 ⟨rfl, h1⟩; have HZ3 := Lib.hid (HZ.out.on h1); clear h1)
        go_ret
        exact ⟨rfl, HZ3.out.l⟩
      | false =>
        have HNO := Lib.hid (hs_none HHS.out)
        obtain ⟨k, hk⟩ : ∃ k, (alC t).length = k := ⟨_, rfl⟩
        have HK := Lib.hid hk
        have hk6 : k ≤ 64 := by rw [← hk]; show (t.l.map (·.1)).length ≤ 64; rw [List.length_map]; exact HG.out.1.few
        clear hk
        have HRB := Lib.hid (fun u (hu : Below W.heap.size W u) (G : List Nat) (hG : ∀ y ∈ G, W.heap.size ≤ y) => ((HB.out.rb.below hu (Nat.le_refl _)).rf (L := G) hG))
        have hcp : m ≤ c' := HB.out.cap
        have hmx : c' ≤ 9223372036854775807 := by have := HB.out.max; unfold maxLen at this; exact this
        have HLN := Lib.hid HB.out.len
        go_wp2_with (first
          | (go_at_call 15; have HZ0 := HZ; (with_reducible refine (c_has HZ0.out id false HHS.out HID.out).mono ?_); rintro e w3 ⟨rfl, h1⟩; have HZa := Lib.hid (HZ.out.on h1); clear h1 HZ0 HZ)
          | (go_at_call 13; (with_reducible refine (c_all HZa.out HG.out.1 k HK.out).mono ?_); rintro e w4 ⟨A4, c4, rfl, h0, h1⟩; have HZb := Lib.hid (HZa.out.on h1); have HOI := Lib.hid (h0.ri (K := G) (fun y hy => HZa.out.hi y hy)); clear h0 h1 HZa)
          | (go_at_call 29; (with_reducible refine (c_next HZb.out HG.out.1 id 0 [] false 0 t (none_ne HNO.out) rfl HID.out).mono ?_); rintro e w5 ⟨A5, c5, rfl, -, h1, h2⟩; have HZc := Lib.hid h1; have HOJ := Lib.hid (HOI.out.step h2); clear h1 h2 HZb)
          | (go_at_call 16; (with_reducible refine (c_close HZc.out HG.out.1 id false t (none_cl HNO.out) HID.out).mono ?_); rintro e w6 ⟨rfl, h1, h2⟩; have HZd := Lib.hid h1; have HOK1 := Lib.hid (HOJ.out.step h2); clear h1 h2 HZc)
          | (go_at_call 28; (with_reducible refine (c_feed HZd.out HG.out.1 id A' m c' l HLN.out hcp hmx (HRB.out _ HZd.out.l _ HZd.out.lo) 0 t (none_fe HNO.out l) HID.out).mono ?_); rintro e w7 ⟨rfl, h1, h2⟩; have HZe := Lib.hid h1; have HOL := Lib.hid (HOK1.out.step h2); clear h1 h2 HZd)
          | (go_at_call 19; (with_reducible refine (c_rest HZe.out HG.out.1 id x 0 [] t (none_re HNO.out x) rfl HID.out).mono ?_); rintro e w8 ⟨A8, c8, rfl, -, h1, h2⟩; have HZf := Lib.hid h1; have HOM := Lib.hid (HOL.out.step h2); clear h1 h2 HZe)
          | (go_at_call 20; (with_reducible refine (c_came HZf.out id 0 (none_ca HNO.out) HID.out).mono ?_); rintro e w9 ⟨rfl, h1⟩; have HZg := Lib.hid (HZf.out.on h1); have HON2 := Lib.hid (HOM.out.step (Ke.of h1).sp); clear h1 HZf)
          | (go_at_call 26; (with_reducible refine (c_say HZg.out HG.out.1 id A' m c' l HLN.out hcp hmx (HRB.out _ HZg.out.l _ HZg.out.lo) false t (none_sa HNO.out l) HID.out).mono ?_); rintro e wa ⟨rfl, h1, h2⟩; have HZh := Lib.hid h1; have HOO := Lib.hid (HON2.out.step h2); clear h1 h2 HZg)
          | (go_at_call 27; (with_reducible refine (c_budget HZh.out HG.out.1 id 1 false t (none_bu HNO.out 1) HID.out).mono ?_); rintro e wb ⟨rfl, h1, h2⟩; have HZi := Lib.hid h1; have HOP := Lib.hid (HOO.out.step h2); clear h1 h2 HZh)
          | (go_at_call 18; (with_reducible refine (c_flush HZi.out HG.out.1 id 0 [] t (none_fl HNO.out) rfl HID.out).mono ?_); rintro e wc ⟨Ac, cc, rfl, -, h1, h2⟩; have HZj := Lib.hid h1; have HOQ := Lib.hid (HOP.out.step h2); clear h1 h2 HZi)
          | (go_at_call 21; (with_reducible refine (c_waits HZj.out id 0 (none_wa HNO.out) HID.out).mono ?_); rintro e wd ⟨rfl, h1⟩; have HZk := Lib.hid (HZj.out.on h1); have HOR := Lib.hid (HOQ.out.step (Ke.of h1).sp); clear h1 HZj)
          | (go_at_call 25; (with_reducible refine (c_room HZk.out id 0 (none_ro HNO.out) HID.out).mono ?_); rintro e we ⟨rfl, h1⟩; have HZl := Lib.hid (HZk.out.on h1); have HOS := Lib.hid (HOR.out.step (Ke.of h1).sp); clear h1 HZk)
          | (go_at_call 22; (with_reducible refine (c_credit HZl.out id 0 (none_cr HNO.out) HID.out).mono ?_); rintro e wf ⟨rfl, h1⟩; have HZm := Lib.hid (HZl.out.on h1); have HOT := Lib.hid (HOS.out.step (Ke.of h1).sp); clear h1 HZl)
          | (go_at_call 32; (with_reducible refine (c_half HZm.out HG.out.1 id false t (none_ha HNO.out) HID.out).mono ?_); rintro e wg ⟨rfl, h1, h2⟩; have HZn := Lib.hid h1; have HOU := Lib.hid (HOT.out.step h2); clear h1 h2 HZm)
          | (go_at_call 23; (with_reducible refine (c_ended HZn.out id false (none_en HNO.out) HID.out).mono ?_); rintro e wh ⟨rfl, h1⟩; have HZo := Lib.hid (HZn.out.on h1); have HOV := Lib.hid (HOU.out.step (Ke.of h1).sp); clear h1 HZn)
          | (go_at_call 24; (with_reducible refine (c_addr HZo.out id 0 (none_ad HNO.out) HID.out).mono ?_); rintro e wi ⟨rfl, h1⟩; have HZp := Lib.hid (HZo.out.on h1); have HOW := Lib.hid (HOV.out.step (Ke.of h1).sp); clear h1 HZo)
          | (go_at_call 15; (with_reducible refine (c_has HZp.out id false HHS.out HID.out).mono ?_); rintro e wj ⟨rfl, h1⟩; have HZq := Lib.hid (HZp.out.on h1); have HOX := Lib.hid (HOW.out.step (Ke.of h1).sp); clear h1 HZp)
          | (go_at_call 13; (with_reducible refine (c_all HZq.out HG.out.1 k HK.out).mono ?_); rintro e wk ⟨Ak, ck, rfl, h0, h1⟩; have HZr := Lib.hid (HZq.out.on h1); have HOY := Lib.hid (HOX.out.step (Ke.of h1).sp); have HOZ := Lib.hid (h0.ri (K := G) (fun y hy => HZq.out.hi y hy)); clear h0 h1 HZq)
          | (go_at_call 33; (with_reducible refine (same_b Ak A4 ck c4 (alC t) G G _ k HK.out HOZ.out HOY.out (by omega)).mono ?_); rintro e wl ⟨rfl, h1⟩; have HZs := Lib.hid (HZr.out.on (h1.below (Nat.le_refl _) (by simp))); clear h1 HZr))
        go_ret
        exact ⟨rfl, HZs.out.l⟩
end Go.Proofs.Ytndamiocmdnenaa
