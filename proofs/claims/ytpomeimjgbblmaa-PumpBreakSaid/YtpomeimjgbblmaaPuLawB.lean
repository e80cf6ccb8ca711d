/- PumpBreak: broken, nothing comes in, goes out, or waits any more: the walk. (Written by gen_pubreak.py.) -/
import Derived.Test.YtpomeimjgbblmaaPuQ
namespace Go.Proofs.Ytpomeimjgbblmaa
set_option linter.unusedVariables false
set_option maxRecDepth 100000
set_option linter.unusedSimpArgs false
open Go.RowKit

set_option maxRecDepth 100000 in
set_option maxHeartbeats 16000000 in
theorem walk_PumpBreak (M : Nat) (A : Option Addr) (L : List OpP) (n c : Nat) (A2 : Option Addr) (L2 : List OpP) (n2 c2 : Nat) (W : World) (hM : M ≤ 255) (h : InP W A L n c) (h2 : InP W A2 L2 n2 c2) :
    Calls Try.prog 7 #[.int .u8 (M : Int), .slice A n c, .slice A2 n2 c2] W fun e w' => e = .returned (.bool true) ∧ Below W.heap.size W w' := by
  have HI := Lib.hid h
  have hcapn : n ≤ 9223372036854775807 := by have h1 := h.cap; have h2 := h.max; unfold maxLen at h2; omega
  have hwM : IntKind.i64.wrap (M : Int) = (M : Int) := by rw [IntKind.wrap_i64]; omega
  have hm6 : M ≤ 65536 := by omega
  have HMM := Lib.hid (mostM_nat M hm6)
  clear h
  have HI2 := Lib.hid h2
  have hcapn2 : n2 ≤ 9223372036854775807 := by have h1 := h2.cap; have h2 := h2.max; unfold maxLen at h2; omega
  clear h2
  go_enter Try.func7, Try.ntmps7
  go_upto_region 2 with (go_at_call 10; (with_reducible refine (puhead_ok _).mono ?_); rintro e u1 ⟨rfl, hb⟩; have HB1 := Lib.hid hb; clear hb)
  go_upto_region 3 with (go_at_call 11; (with_reducible refine (y_new (M : Int) M HMM.out HB1.out).mono ?_); rintro e u2 ⟨G2, pb, rfl, h1, h2, h3⟩; have HZ2 := Lib.hid h1; clear h1 h2 h3)
  have HG := Lib.hid (pugreat_ok A L n c W u2 HI.out HZ2.out.l)
  have HG2 := Lib.hid (pugreat_ok A2 L2 n2 c2 W u2 HI2.out HZ2.out.l)
  go_wp2_with (first
    | (go_at_call 13; (with_reducible refine HG.out.mono ?_); rintro e uu ⟨⟨v, rfl, hv⟩, hw⟩; rw [hw]; clear hw; cases v)
    | (go_at_call 13; (with_reducible refine HG2.out.mono ?_); rintro e uu ⟨⟨v2, rfl, hv2⟩, hw⟩; rw [hw]; clear hw; cases v2))
  all_goals try (go_ret; exact ⟨rfl, HZ2.out.l⟩)
  have h400 : n ≤ 400 := by simpa using hv
  clear HG HG2 hv hv2
  go_loopw [9] (fun v9 wr => ∃ (i : Nat) (p : Pu) (G : List Nat), i ≤ n ∧ v9 = .int .i64 (i : Int) ∧ Hid (Zu W wr G pb M p) ∧ Hid (Gu M p ∧ Fi i p)) (fun v9 _ => n - (intOf v9).toNat)
  case atStart => exact ⟨0, pu0, G2, by omega, rfl, HZ2, Lib.hid ⟨gu_new M, fi_new⟩⟩
  case round =>
    obtain ⟨i, p, G, hi, rfl, HZ, HE⟩ := hrel
    by_cases hi1 : i < n
    · have hi2 : (i : Int) < (n : Int) := by omega
      have HFU := Lib.hid (HE.out.2.fu (by omega))
      obtain ⟨bx, o, op, rfl, hx, hc⟩ := HI.out.at_ i hi1
      obtain ⟨⟨x0, x1, x2, x3⟩, hok⟩ := hc wr HZ.out.l
      obtain ⟨ow, os, oA, oc, ol, ox⟩ := op
      dsimp only at x0 x1 x2 x3
      obtain ⟨on, hon⟩ : ∃ on, ol.length = on := ⟨_, rfl⟩
      rw [hon] at x2
      have HON := Lib.hid hon
      have HOK := Lib.hid (fun u (hu : Below W.heap.size W u) => (hc u hu).2)
      clear hx hc hok hon
      by_cases h2 : ow = 2
      · subst h2
        obtain ⟨⟨⟨l, b⟩, p2⟩, hR⟩ : ∃ R, outP p os ox = R := ⟨_, rfl⟩
        have HRE := Lib.hid hR
        have HE2 := Lib.hid (show Gu M p2 ∧ Fi (i + 1) p2 from ⟨gu_out2 HE.out.1 hR, fi_out HE.out.2 HE.out.1 hm6 hR⟩)
        clear hR
        go_upto_region 9 with fail
        go_region_with (go_at_call 14; (with_reducible refine (y_out (HZ.out.on ((Below.refl _ _).drew)) HE.out.1 hm6 HFU.out os ox _ l b p2 HRE.out rfl).mono ?_); rintro e u4 ⟨G5, A4, c4, rfl, h0, h1, h2⟩; have HZ4 := Lib.hid h1; clear h0 h1 h2)
        all_goals go_wp2_with fail
        all_goals exact ⟨⟨i + 1, p2, G5, by omega, by go_num, HZ4, HE2⟩, by simp [intOf]; omega⟩
      · have h2b : (ow == 2) = false := by simp [h2]
        clear h2
        obtain ⟨⟨r, p2⟩, hR⟩ : ∃ R, inP M p os ol = R := ⟨_, rfl⟩
        have HRE := Lib.hid hR
        have HE2 := Lib.hid (show Gu M p2 ∧ Fi (i + 1) p2 from ⟨gu_in2 HE.out.1 hR, fi_in HE.out.2 hR⟩)
        have HOV2 := Lib.hid (HOK.out wr.drew (HZ.out.on ((Below.refl _ _).drew)).l)
        clear hR
        go_upto_region 10 with fail
        go_region_with (go_at_call 20; (with_reducible refine (y_in (HZ.out.on ((Below.refl _ _).drew)) HE.out.1 hm6 os oA on oc ol HON.out (HON.out ▸ HOV2.out.cap) HOV2.out.max (fun hh => HON.out ▸ HOV2.out.nil_ hh) (HOV2.out.rb.rf HZ.out.lo) r p2 HRE.out).mono ?_); rintro e u4 ⟨G5, rfl, h1, h2⟩; have HZ4 := Lib.hid h1; clear h1 h2)
        all_goals go_wp2_with fail
        all_goals exact ⟨⟨i + 1, p2, G5, by omega, by go_num, HZ4, HE2⟩, by simp [intOf]; omega⟩
    · have hi2 : ¬ (i : Int) < (n : Int) := by omega
      obtain ⟨ma, hma⟩ : ∃ a, mvP p 0 = a := ⟨_, rfl⟩
      obtain ⟨mb, hmb⟩ : ∃ a, mvP p 1 = a := ⟨_, rfl⟩
      have HMV := Lib.hid (And.intro hma hmb)
      clear hma hmb
      go_upto_region 12 with (go_at_call 26; (with_reducible refine (y_moved HZ.out 0 ma HMV.out.1).mono ?_); rintro e u4 ⟨rfl, h1⟩; have HZ4 := Lib.hid (HZ.out.on h1); clear h1)
      go_upto_region 13 with (go_at_call 26; (with_reducible refine (y_moved HZ4.out 1 mb HMV.out.2).mono ?_); rintro e u5 ⟨rfl, h1⟩; have HZ5 := Lib.hid (HZ4.out.on h1); clear h1)
      go_upto_region 14 with (go_at_call 18; (with_reducible refine (y_brk HZ5.out HE.out.1 hm6).mono ?_); rintro e u6 ⟨G6, rfl, h1, h2⟩; have HZ6 := Lib.hid h1; clear h1 h2)
      obtain ⟨p2, hp2⟩ : ∃ p2, brP p = p2 := ⟨_, rfl⟩
      have HE2 := Lib.hid (show Gu M p2 ∧ Bk0 p2 ∧ Fu p2 ∧ mvP p2 0 = ma ∧ mvP p2 1 = mb by rw [← hp2, br_mv, br_mv]; exact ⟨gu_br HE.out.1, bk0_of p, (fi_br HE.out.2).fu (by omega), HMV.out.1, HMV.out.2⟩)
      have HZ7 := Lib.hid (show Zu W u6 G6 pb M p2 by rw [← hp2]; exact HZ6.out)
      clear hp2
      go_wp2_with fail
      go_loopw [12] (fun v12 w9 => ∃ (j : Nat) (G : List Nat), j ≤ n2 ∧ v12 = .int .i64 (j : Int) ∧ Hid (Zu W w9 G pb M p2)) (fun v12 _ => n2 - (intOf v12).toNat)
      case atStart => exact ⟨0, G6, by omega, rfl, HZ7⟩
      case round =>
        obtain ⟨j, G9, hj, rfl, HZ9⟩ := hrel
        by_cases hj1 : j < n2
        · have hj2 : (j : Int) < (n2 : Int) := by omega
          obtain ⟨bx, o, op, rfl, hx, hc⟩ := HI2.out.at_ j hj1
          obtain ⟨⟨x0, x1, x2, x3⟩, hok⟩ := hc wr HZ9.out.l
          obtain ⟨ow, os, oA, oc, ol, ox⟩ := op
          dsimp only at x0 x1 x2 x3
          obtain ⟨on, hon⟩ : ∃ on, ol.length = on := ⟨_, rfl⟩
          rw [hon] at x2
          have HON := Lib.hid hon
          have HOK := Lib.hid (fun u (hu : Below W.heap.size W u) => (hc u hu).2)
          clear hx hc hok hon
          go_upto_region 18 with fail
          obtain ⟨kb, hkb⟩ : ∃ kb, wr.heap.size = kb := ⟨_, rfl⟩
          obtain ⟨v, hv⟩ : ∃ v, wr.alloc (.cells #[.int .i64 ow, .int .i64 os, .slice oA on oc, .int .i64 ox] 31) = v := ⟨_, rfl⟩
          have hbv : Below wr.heap.size wr v := by rw [← hv]; exact (Below.refl _ _).alloc (Nat.le_refl _) _
          have HB := Lib.hid (show Bz v G9 kb 31 #[.int .i64 ow, .int .i64 os, .slice oA on oc, .int .i64 ox] by rw [← hv, ← hkb]; exact Bz.new HZ9.out.hi _ _)
          have HZv := Lib.hid (HZ9.out.on hbv)
          try rw [hv]
          try rw [hkb]
          clear hv hkb hbv x0 x1 x2 x3
          have e0 : v.cell? ⟨kb, 0, none⟩ = some (.int .i64 ow) := HB.out.b.cell 0
          have e1 : v.cell? ⟨kb, 1, none⟩ = some (.int .i64 os) := HB.out.b.cell 1
          have e2 : v.cell? ⟨kb, 2, none⟩ = some (.slice oA on oc) := HB.out.b.cell 2
          have e3 : v.cell? ⟨kb, 3, none⟩ = some (.int .i64 ox) := HB.out.b.cell 3
          go_upto_region 19 with (go_at_call 14; (with_reducible refine (y_out HZv.out HE2.out.1 hm6 HE2.out.2.2.1 os ox 0 [] false p2 (HE2.out.2.1.out os ox) rfl).mono ?_); rintro e u7 ⟨Ga, A4, c4, rfl, h0, h1, h2⟩; have HZa := Lib.hid h1; have HBa := Lib.hid (HB.out.step h2); clear h0 h1 h2)
          clear e0 e1 e2 e3
          have e0 : u7.cell? ⟨kb, 0, none⟩ = some (.int .i64 ow) := HBa.out.b.cell 0
          have e1 : u7.cell? ⟨kb, 1, none⟩ = some (.int .i64 os) := HBa.out.b.cell 1
          have e2 : u7.cell? ⟨kb, 2, none⟩ = some (.slice oA on oc) := HBa.out.b.cell 2
          have e3 : u7.cell? ⟨kb, 3, none⟩ = some (.int .i64 ox) := HBa.out.b.cell 3
          have HOV2 := Lib.hid (HOK.out u7 HZa.out.l)
          go_wp2_with (first
            | (go_at_call 20; (with_reducible refine (y_in HZa.out HE2.out.1 hm6 os oA on oc ol HON.out (HON.out ▸ HOV2.out.cap) HOV2.out.max (fun hh => HON.out ▸ HOV2.out.nil_ hh) (HOV2.out.rb.rf HZa.out.lo) 0 p2 (HE2.out.2.1.in_ M os ol)).mono ?_); rintro e u8 ⟨Gb, rfl, h1, h2⟩; have HZb := Lib.hid h1; have HBb := Lib.hid (HBa.out.step h2); clear h1 h2; have j1 : u8.cell? ⟨kb, 1, none⟩ = some (.int .i64 os) := HBb.out.b.cell 1)
            | (go_at_call 16; (with_reducible refine (y_end HZb.out os false p2 (HE2.out.2.1.end_ os)).mono ?_); rintro e u9 ⟨Gc, rfl, h1, h2⟩; have HZc := Lib.hid h1; have HBc := Lib.hid (HBb.out.step h2); clear h1 h2; have j2 : u9.cell? ⟨kb, 1, none⟩ = some (.int .i64 os) := HBc.out.b.cell 1)
            | (go_at_call 22; (with_reducible refine (y_waits HZc.out HE2.out.1 hm6 os 0 (HE2.out.2.1.wt os)).mono ?_); rintro e y1 ⟨rfl, h1⟩; have HZd := Lib.hid (HZc.out.on h1); have HBd := Lib.hid (HBc.out.on h1); clear h1; have j3 : y1.cell? ⟨kb, 1, none⟩ = some (.int .i64 os) := HBd.out.b.cell 1)
            | (go_at_call 24; (with_reducible refine (y_room HZd.out HE2.out.1 hm6 os 0 (HE2.out.2.1.rm M os)).mono ?_); rintro e y2 ⟨rfl, h1⟩; have HZe := Lib.hid (HZd.out.on h1); clear h1))
          go_roundw
          case rel => exact ⟨j + 1, Gc, by omega, by go_num, HZe⟩
          case measure => simp [intOf] <;> omega
        · have hj2 : ¬ (j : Int) < (n2 : Int) := by omega
          have n1 : (ma == ma) = true := by simp
          have n2 : (mb == mb) = true := by simp
          go_wp2_with (first
            | (go_at_call 28; (with_reducible refine (y_over HZ9.out true HE2.out.2.1.ov).mono ?_); rintro e y1 ⟨rfl, h1⟩; have HZa := Lib.hid (HZ9.out.on h1); clear h1)
            | (go_at_call 26; (with_reducible refine (y_moved HZa.out 0 ma HE2.out.2.2.2.1).mono ?_); rintro e y2 ⟨rfl, h1⟩; have HZb := Lib.hid (HZa.out.on h1); clear h1)
            | (go_at_call 26; (with_reducible refine (y_moved HZb.out 1 mb HE2.out.2.2.2.2).mono ?_); rintro e y3 ⟨rfl, h1⟩; have HZc := Lib.hid (HZb.out.on h1); clear h1)
            | (go_at_call 22; (with_reducible refine (y_waits HZc.out HE2.out.1 hm6 0 0 (HE2.out.2.1.wt 0)).mono ?_); rintro e y4 ⟨rfl, h1⟩; have HZd := Lib.hid (HZc.out.on h1); clear h1)
            | (go_at_call 22; (with_reducible refine (y_waits HZd.out HE2.out.1 hm6 1 0 (HE2.out.2.1.wt 1)).mono ?_); rintro e y5 ⟨rfl, h1⟩; have HZe := Lib.hid (HZd.out.on h1); clear h1))
          go_ret
          exact ⟨rfl, HZe.out.l⟩
end Go.Proofs.Ytpomeimjgbblmaa
