/- PumpEnd: an end goes out once, behind all bytes: the walk. (Written by gen_puend.py.) -/
import Derived.Test.YtpomeimjgbblmaaPuE
import Derived.Deep.CutRange
namespace Go.Proofs.Ytpomeimjgbblmaa
set_option linter.unusedVariables false
set_option maxRecDepth 100000
set_option linter.unusedSimpArgs false
open Go.RowKit

set_option maxRecDepth 100000 in
set_option maxHeartbeats 16000000 in
theorem walk_PumpEnd (M : Nat) (A : Option Addr) (L : List OpP) (n c : Nat) (W : World) (hM : M ≤ 255) (h : InP W A L n c) :
    Calls Try.prog 5 #[.int .u8 (M : Int), .slice A n c] W fun e w' => e = .returned (.bool true) ∧ Below W.heap.size W w' := by
  have HI := Lib.hid h
  have hcapn : n ≤ 9223372036854775807 := by have h1 := h.cap; have h2 := h.max; unfold maxLen at h2; omega
  have hwM : IntKind.i64.wrap (M : Int) = (M : Int) := by rw [IntKind.wrap_i64]; omega
  have hm6 : M ≤ 65536 := by omega
  have HMM := Lib.hid (mostM_nat M hm6)
  clear h
  go_enter Try.func5, Try.ntmps5
  go_upto_region 2 with (go_at_call 10; (with_reducible refine (puhead_ok _).mono ?_); rintro e u1 ⟨rfl, hb⟩; have HB1 := Lib.hid hb; clear hb)
  go_upto_region 3 with (go_at_call 11; (with_reducible refine (y_new (M : Int) M HMM.out HB1.out).mono ?_); rintro e u2 ⟨G2, pb, rfl, h1, h2, h3⟩; have HZ2 := Lib.hid h1; clear h1 h2 h3)
  have HG := Lib.hid (pugreat_ok A L n c W u2 HI.out HZ2.out.l)
  go_wp2_with (go_at_call 13; (with_reducible refine HG.out.mono ?_); rintro e uu ⟨⟨v, rfl, hv⟩, hw⟩; rw [hw]; clear hw; cases v)
  all_goals try (go_ret; exact ⟨rfl, HZ2.out.l⟩)
  have h400 : n ≤ 400 := by simpa using hv
  clear HG hv
  obtain ⟨tb1, htb1⟩ : ∃ t, u2.heap.size = t := ⟨_, rfl⟩
  obtain ⟨u3, hu3⟩ : ∃ u3, u2.alloc (.cells #[.bool false, .bool false] 4) = u3 := ⟨_, rfl⟩
  have hb3 : Below u2.heap.size u2 u3 := by rw [← hu3]; exact (Below.refl _ _).alloc (Nat.le_refl _) _
  have HZ3 := Lib.hid (HZ2.out.on hb3)
  have HT3 := Lib.hid (show Bz u3 G2 tb1 4 #[.bool false, .bool false] by rw [← hu3, ← htb1]; exact Bz.new HZ2.out.hi _ _)
  obtain ⟨tb2, htb2⟩ : ∃ t, tb1 + 1 = t := ⟨_, rfl⟩
  have hsz3 : u3.heap.size = tb2 := by rw [← hu3, World.size_alloc, htb1, htb2]
  have HTB := Lib.hid (show W.heap.size ≤ tb1 ∧ W.heap.size ≤ tb2 ∧ tb1 ≠ tb2 from ⟨by rw [← htb1]; exact HZ2.out.l.size, by rw [← hsz3]; exact HZ3.out.l.size, by have := HT3.out.b.lt; omega⟩)
  obtain ⟨u4, hu4⟩ : ∃ u4, u3.alloc (.cells #[.bool false, .bool false] 4) = u4 := ⟨_, rfl⟩
  have hb4 : Below u3.heap.size u3 u4 := by rw [← hu4]; exact (Below.refl _ _).alloc (Nat.le_refl _) _
  have HZ4 := Lib.hid (HZ3.out.on hb4)
  have HT4 := Lib.hid (HT3.out.on hb4)
  have HU4 := Lib.hid (show Bz u4 G2 tb2 4 #[.bool false, .bool false] by rw [← hu4, ← hsz3]; exact Bz.new HZ3.out.hi _ _)
  go_upto_region 7 with fail
  try rw [htb1]
  try rw [hu3]
  try rw [hsz3]
  try rw [htb2]
  try rw [hu4]
  clear hu3 hu4 hb3 hb4 htb1 htb2 hsz3
  go_wp2_with fail
  go_loopw [9, 10] (fun v9 v10 wr => ∃ (i : Nat) (p : Pu) (G : List Nat) (T0 T1 E0 E1 B : Bool), i ≤ n ∧ v9 = .bool B ∧ v10 = .int .i64 (i : Int) ∧ Hid (Zu W wr G pb M p) ∧ Hid (Gu M p ∧ Fi i p) ∧ Hid (Bz wr G tb1 4 #[.bool T0, .bool T1]) ∧ Hid (Bz wr G tb2 4 #[.bool E0, .bool E1]) ∧ Hid (B = p.br ∧ T0 = p.b.to ∧ T1 = p.a.to ∧ E0 = p.a.en ∧ E1 = p.b.en)) (fun _ v10 _ => n - (intOf v10).toNat)
  case atStart => exact ⟨0, pu0, G2, false, false, false, false, false, by omega, rfl, rfl, HZ4, Lib.hid ⟨gu_new M, fi_new⟩, HT4, HU4, Lib.hid ⟨rfl, rfl, rfl, rfl, rfl⟩⟩
  case round =>
    obtain ⟨i, p, G, T0, T1, E0, E1, B, hi, rfl, rfl, HZ, HE, HT, HU, HR⟩ := hrel
    by_cases hi1 : i < n
    · have hi2 : (i : Int) < (n : Int) := by omega
      have HFU := Lib.hid (HE.out.2.fu (by omega))
      obtain ⟨bx, o, op, rfl, hx, hc⟩ := HI.out.at_ i hi1
      obtain ⟨⟨x0, x1, x2, x3⟩, hok⟩ := hc wr HZ.out.l
      obtain ⟨ow, os, oA, oc, ol, ox⟩ := op
      dsimp only at x0 x1 x2 x3
      obtain ⟨on, hon⟩ : ∃ on, ol.length = on := ⟨_, rfl⟩
      rw [hon] at x2
      have HON := Lib.hid hon
      have HOK := Lib.hid (fun u (hu : Below W.heap.size W u) => (hc u hu).2)
      clear hx hc hok hon
      go_upto_region 12 with fail
      obtain ⟨kb, hkb⟩ : ∃ kb, wr.heap.size = kb := ⟨_, rfl⟩
      obtain ⟨v, hv⟩ : ∃ v, wr.alloc (.cells #[.int .i64 ow, .int .i64 os, .slice oA on oc, .int .i64 ox] 31) = v := ⟨_, rfl⟩
      have hbv : Below wr.heap.size wr v := by rw [← hv]; exact (Below.refl _ _).alloc (Nat.le_refl _) _
      have HB := Lib.hid (show Bz v G kb 31 #[.int .i64 ow, .int .i64 os, .slice oA on oc, .int .i64 ox] by rw [← hv, ← hkb]; exact Bz.new HZ.out.hi _ _)
      have HKB := Lib.hid (show kb ≠ tb1 ∧ kb ≠ tb2 from ⟨by have := HT.out.b.lt; omega, by have := HU.out.b.lt; omega⟩)
      have HZv := Lib.hid (HZ.out.on hbv)
      have HTv := Lib.hid (HT.out.on hbv)
      have HUv := Lib.hid (HU.out.on hbv)
      try rw [hv]
      try rw [hkb]
      clear hv hkb hbv x0 x1 x2 x3
      have e0 : v.cell? ⟨kb, 0, none⟩ = some (.int .i64 ow) := HB.out.b.cell 0
      have e1 : v.cell? ⟨kb, 1, none⟩ = some (.int .i64 os) := HB.out.b.cell 1
      have e2 : v.cell? ⟨kb, 2, none⟩ = some (.slice oA on oc) := HB.out.b.cell 2
      have e3 : v.cell? ⟨kb, 3, none⟩ = some (.int .i64 ox) := HB.out.b.cell 3
      by_cases hs0 : os = 0
      · subst hs0
        have hw0 : IntKind.i64.wrap (1 - 0) = 1 := by decide
        have hw1 : IntKind.i64.wrap (1 - 1) = 0 := by decide
        have hw2 : IntKind.i64.wrap 1 = 1 := by decide
        have hw3 : IntKind.i64.wrap 0 = 0 := by decide
        as_aux_lemma =>
          go_upto_if 52 with fail
          go_cut [9, 12, 13, 14] from 32 to 183 (fun v9 v12 v13 v14 wx => ∃ (p2 : Pu) (G5 : List Nat) (T0 T1 E0 E1 B : Bool), v9 = .bool B ∧ Hid (Zu W wx G5 pb M p2) ∧ Hid (Gu M p2 ∧ Fi (i + 1) p2) ∧ Hid (Bz wx G5 tb1 4 #[.bool T0, .bool T1]) ∧ Hid (Bz wx G5 tb2 4 #[.bool E0, .bool E1]) ∧ Hid (B = p2.br ∧ T0 = p2.b.to ∧ T1 = p2.a.to ∧ E0 = p2.a.en ∧ E1 = p2.b.en))
          case first =>
            by_cases h2 : ow = 2
            · subst h2
              have h2c : ((2 : Int) == 2) = true := rfl
              obtain ⟨⟨⟨l, b⟩, p2⟩, hR⟩ : ∃ R, outP p 0 ox = R := ⟨_, rfl⟩
              have HRE := Lib.hid hR
              have HO := Lib.hid (out_at (k := false) rfl HE.out.1 hR)
              have HE2 := Lib.hid (show Gu M p2 ∧ Fi (i + 1) p2 from ⟨gu_out2 HE.out.1 hR, fi_out HE.out.2 HE.out.1 hm6 hR⟩)
              have HR2 := Lib.hid (show B = p2.br ∧ (T0 || b) = p2.b.to ∧ T1 = p2.a.to ∧ E0 = p2.a.en ∧ E1 = p2.b.en from ⟨HR.out.1.trans HO.out.br.symm, by rw [HR.out.2.1]; exact HO.out.to.symm, HR.out.2.2.1.trans (congrArg Wy.to HO.out.same).symm, HR.out.2.2.2.1.trans (congrArg Wy.en HO.out.same).symm, HR.out.2.2.2.2.trans HO.out.en.symm⟩)
              have HN := Lib.hid (show (B = true → l = [] ∧ b = false) ∧ (T0 = true → l = [] ∧ b = false) ∧ (b = true → B = false ∧ E1 = true ∧ wtP p2 0 = 0) from ⟨fun hh => HO.out.brk (HR.out.1 ▸ hh), fun hh => HO.out.told (HR.out.2.1 ▸ hh), fun hh => ⟨HR.out.1.trans (HO.out.end_ hh).1, HR.out.2.2.2.2.trans (HO.out.end_ hh).2.1, by show (p2.w !false).q.length = 0; rw [(HO.out.end_ hh).2.2]; rfl⟩⟩)
              clear hR
              cases B with
              | true =>
                obtain rfl : b = false := (HN.out.1 rfl).2
                cases T0 with
                | true =>
                  obtain rfl : l = [] := (HN.out.1 rfl).1
                  go_upto_region 15 with (go_at_call 14; (with_reducible refine (y_out HZv.out HE.out.1 hm6 HFU.out 0 ox 0 [] false p2 HRE.out rfl).mono ?_); rintro e u4 ⟨G5, A4, c4, rfl, h0, h1, h2⟩; have HZ4 := Lib.hid h1; have HB4 := Lib.hid (HB.out.step h2); have HT4 := Lib.hid (HTv.out.step h2); have HU4 := Lib.hid (HUv.out.step h2); clear h0 h1 h2)
                  clear e0 e1 e2 e3
                  have e0 : u4.cell? ⟨kb, 0, none⟩ = some (.int .i64 2) := HB4.out.b.cell 0
                  have e1 : u4.cell? ⟨kb, 1, none⟩ = some (.int .i64 0) := HB4.out.b.cell 1
                  have e2 : u4.cell? ⟨kb, 2, none⟩ = some (.slice oA on oc) := HB4.out.b.cell 2
                  have e3 : u4.cell? ⟨kb, 3, none⟩ = some (.int .i64 ox) := HB4.out.b.cell 3
                  have d0 : u4.cell? ⟨tb1, 0, none⟩ = some (.bool true) := HT4.out.b.cell 0
                  have d1 : u4.cell? ⟨tb1, 1, none⟩ = some (.bool T1) := HT4.out.b.cell 1
                  have g0 : u4.cell? ⟨tb2, 0, none⟩ = some (.bool E0) := HU4.out.b.cell 0
                  have g1 : u4.cell? ⟨tb2, 1, none⟩ = some (.bool E1) := HU4.out.b.cell 1
                  go_upto_region 17 with fail
                  clear e0 e1 e2 e3 d0 d1 g0 g1
                  have e1 : u4.cell? ⟨kb, 1, none⟩ = some (.int .i64 0) := HB4.out.b.cell 1
                  have d0 : u4.cell? ⟨tb1, 0, none⟩ = some (.bool true) := HT4.out.b.cell 0
                  have d1 : u4.cell? ⟨tb1, 1, none⟩ = some (.bool T1) := HT4.out.b.cell 1
                  have fd0 := HT4.out.b.frozen 0
                  have fd1 := HT4.out.b.frozen 1
                  go_region
                  clear e1 d0 d1 fd0 fd1
                  skip
                  obtain ⟨u6, hu6⟩ : ∃ w, (u4.setCell ⟨tb1, 0, none⟩ (.bool true)).drew = w := ⟨_, rfl⟩
                  try rw [hu6]
                  have kk : Ke [tb1] u4 u6 := by rw [← hu6]; exact ((Ke.refl [tb1] u4).set (p := ⟨tb1, 0, none⟩) (by simp) _).drew
                  have HZ6 := Lib.hid (HZ4.out.ke kk (fun y hy hx => by rw [List.mem_singleton.1 hx] at hy; exact HT4.out.n hy) (HZ4.out.l.trans (kk.below HZ4.out.l.size (fun x hx => by rw [List.mem_singleton.1 hx]; exact HTB.out.1))))
                  have HT6 := Lib.hid (show Bz u6 G5 tb1 4 #[.bool true, .bool T1] from ⟨by rw [← hu6]; exact (HT4.out.b.set 0 _).drew, HT4.out.n⟩)
                  have HU6 := Lib.hid (show Bz u6 G5 tb2 4 #[.bool E0, .bool E1] from ⟨HU4.out.b.ke kk (by simpa using HTB.out.2.2.symm), HU4.out.n⟩)
                  clear hu6 kk
                  try go_wp2_with fail
                  go_meet
                  case rel => exact ⟨p2, G5, true, T1, E0, E1, true, rfl, HZ6, HE2, HT6, HU6, HR2⟩
                | false =>
                  obtain rfl : l = [] := (HN.out.1 rfl).1
                  go_upto_region 15 with (go_at_call 14; (with_reducible refine (y_out HZv.out HE.out.1 hm6 HFU.out 0 ox 0 [] false p2 HRE.out rfl).mono ?_); rintro e u4 ⟨G5, A4, c4, rfl, h0, h1, h2⟩; have HZ4 := Lib.hid h1; have HB4 := Lib.hid (HB.out.step h2); have HT4 := Lib.hid (HTv.out.step h2); have HU4 := Lib.hid (HUv.out.step h2); clear h0 h1 h2)
                  clear e0 e1 e2 e3
                  have e0 : u4.cell? ⟨kb, 0, none⟩ = some (.int .i64 2) := HB4.out.b.cell 0
                  have e1 : u4.cell? ⟨kb, 1, none⟩ = some (.int .i64 0) := HB4.out.b.cell 1
                  have e2 : u4.cell? ⟨kb, 2, none⟩ = some (.slice oA on oc) := HB4.out.b.cell 2
                  have e3 : u4.cell? ⟨kb, 3, none⟩ = some (.int .i64 ox) := HB4.out.b.cell 3
                  have d0 : u4.cell? ⟨tb1, 0, none⟩ = some (.bool false) := HT4.out.b.cell 0
                  have d1 : u4.cell? ⟨tb1, 1, none⟩ = some (.bool T1) := HT4.out.b.cell 1
                  have g0 : u4.cell? ⟨tb2, 0, none⟩ = some (.bool E0) := HU4.out.b.cell 0
                  have g1 : u4.cell? ⟨tb2, 1, none⟩ = some (.bool E1) := HU4.out.b.cell 1
                  go_upto_region 17 with fail
                  clear e0 e1 e2 e3 d0 d1 g0 g1
                  have e1 : u4.cell? ⟨kb, 1, none⟩ = some (.int .i64 0) := HB4.out.b.cell 1
                  have d0 : u4.cell? ⟨tb1, 0, none⟩ = some (.bool false) := HT4.out.b.cell 0
                  have d1 : u4.cell? ⟨tb1, 1, none⟩ = some (.bool T1) := HT4.out.b.cell 1
                  have fd0 := HT4.out.b.frozen 0
                  have fd1 := HT4.out.b.frozen 1
                  go_region
                  clear e1 d0 d1 fd0 fd1
                  skip
                  obtain ⟨u6, hu6⟩ : ∃ w, (u4.setCell ⟨tb1, 0, none⟩ (.bool false)).drew = w := ⟨_, rfl⟩
                  try rw [hu6]
                  have kk : Ke [tb1] u4 u6 := by rw [← hu6]; exact ((Ke.refl [tb1] u4).set (p := ⟨tb1, 0, none⟩) (by simp) _).drew
                  have HZ6 := Lib.hid (HZ4.out.ke kk (fun y hy hx => by rw [List.mem_singleton.1 hx] at hy; exact HT4.out.n hy) (HZ4.out.l.trans (kk.below HZ4.out.l.size (fun x hx => by rw [List.mem_singleton.1 hx]; exact HTB.out.1))))
                  have HT6 := Lib.hid (show Bz u6 G5 tb1 4 #[.bool false, .bool T1] from ⟨by rw [← hu6]; exact (HT4.out.b.set 0 _).drew, HT4.out.n⟩)
                  have HU6 := Lib.hid (show Bz u6 G5 tb2 4 #[.bool E0, .bool E1] from ⟨HU4.out.b.ke kk (by simpa using HTB.out.2.2.symm), HU4.out.n⟩)
                  clear hu6 kk
                  try go_wp2_with fail
                  go_meet
                  case rel => exact ⟨p2, G5, false, T1, E0, E1, true, rfl, HZ6, HE2, HT6, HU6, HR2⟩
              | false =>
                cases T0 with
                | true =>
                  obtain rfl : b = false := (HN.out.2.1 rfl).2
                  obtain rfl : l = [] := (HN.out.2.1 rfl).1
                  go_upto_region 15 with (go_at_call 14; (with_reducible refine (y_out HZv.out HE.out.1 hm6 HFU.out 0 ox 0 [] false p2 HRE.out rfl).mono ?_); rintro e u4 ⟨G5, A4, c4, rfl, h0, h1, h2⟩; have HZ4 := Lib.hid h1; have HB4 := Lib.hid (HB.out.step h2); have HT4 := Lib.hid (HTv.out.step h2); have HU4 := Lib.hid (HUv.out.step h2); clear h0 h1 h2)
                  clear e0 e1 e2 e3
                  have e0 : u4.cell? ⟨kb, 0, none⟩ = some (.int .i64 2) := HB4.out.b.cell 0
                  have e1 : u4.cell? ⟨kb, 1, none⟩ = some (.int .i64 0) := HB4.out.b.cell 1
                  have e2 : u4.cell? ⟨kb, 2, none⟩ = some (.slice oA on oc) := HB4.out.b.cell 2
                  have e3 : u4.cell? ⟨kb, 3, none⟩ = some (.int .i64 ox) := HB4.out.b.cell 3
                  have d0 : u4.cell? ⟨tb1, 0, none⟩ = some (.bool true) := HT4.out.b.cell 0
                  have d1 : u4.cell? ⟨tb1, 1, none⟩ = some (.bool T1) := HT4.out.b.cell 1
                  have g0 : u4.cell? ⟨tb2, 0, none⟩ = some (.bool E0) := HU4.out.b.cell 0
                  have g1 : u4.cell? ⟨tb2, 1, none⟩ = some (.bool E1) := HU4.out.b.cell 1
                  go_upto_region 17 with fail
                  clear e0 e1 e2 e3 d0 d1 g0 g1
                  have e1 : u4.cell? ⟨kb, 1, none⟩ = some (.int .i64 0) := HB4.out.b.cell 1
                  have d0 : u4.cell? ⟨tb1, 0, none⟩ = some (.bool true) := HT4.out.b.cell 0
                  have d1 : u4.cell? ⟨tb1, 1, none⟩ = some (.bool T1) := HT4.out.b.cell 1
                  have fd0 := HT4.out.b.frozen 0
                  have fd1 := HT4.out.b.frozen 1
                  go_region
                  clear e1 d0 d1 fd0 fd1
                  skip
                  obtain ⟨u6, hu6⟩ : ∃ w, (u4.setCell ⟨tb1, 0, none⟩ (.bool true)).drew = w := ⟨_, rfl⟩
                  try rw [hu6]
                  have kk : Ke [tb1] u4 u6 := by rw [← hu6]; exact ((Ke.refl [tb1] u4).set (p := ⟨tb1, 0, none⟩) (by simp) _).drew
                  have HZ6 := Lib.hid (HZ4.out.ke kk (fun y hy hx => by rw [List.mem_singleton.1 hx] at hy; exact HT4.out.n hy) (HZ4.out.l.trans (kk.below HZ4.out.l.size (fun x hx => by rw [List.mem_singleton.1 hx]; exact HTB.out.1))))
                  have HT6 := Lib.hid (show Bz u6 G5 tb1 4 #[.bool true, .bool T1] from ⟨by rw [← hu6]; exact (HT4.out.b.set 0 _).drew, HT4.out.n⟩)
                  have HU6 := Lib.hid (show Bz u6 G5 tb2 4 #[.bool E0, .bool E1] from ⟨HU4.out.b.ke kk (by simpa using HTB.out.2.2.symm), HU4.out.n⟩)
                  clear hu6 kk
                  try go_wp2_with fail
                  go_meet
                  case rel => exact ⟨p2, G5, true, T1, E0, E1, false, rfl, HZ6, HE2, HT6, HU6, HR2⟩
                | false =>
                  cases b with
                  | true =>
                    have HNW := Lib.hid (HN.out.2.2 rfl).2.2
                    obtain rfl : E1 = true := (HN.out.2.2 rfl).2.1
                    obtain ⟨t, ht⟩ : ∃ t, l.length = t := ⟨_, rfl⟩
                    have HTT := Lib.hid ht
                    clear ht
                    go_upto_region 15 with (go_at_call 14; (with_reducible refine (y_out HZv.out HE.out.1 hm6 HFU.out 0 ox t l true p2 HRE.out HTT.out).mono ?_); rintro e u4 ⟨G5, A4, c4, rfl, h0, h1, h2⟩; have HZ4 := Lib.hid h1; have HB4 := Lib.hid (HB.out.step h2); have HT4 := Lib.hid (HTv.out.step h2); have HU4 := Lib.hid (HUv.out.step h2); clear h0 h1 h2)
                    clear e0 e1 e2 e3
                    have e0 : u4.cell? ⟨kb, 0, none⟩ = some (.int .i64 2) := HB4.out.b.cell 0
                    have e1 : u4.cell? ⟨kb, 1, none⟩ = some (.int .i64 0) := HB4.out.b.cell 1
                    have e2 : u4.cell? ⟨kb, 2, none⟩ = some (.slice oA on oc) := HB4.out.b.cell 2
                    have e3 : u4.cell? ⟨kb, 3, none⟩ = some (.int .i64 ox) := HB4.out.b.cell 3
                    have d0 : u4.cell? ⟨tb1, 0, none⟩ = some (.bool false) := HT4.out.b.cell 0
                    have d1 : u4.cell? ⟨tb1, 1, none⟩ = some (.bool T1) := HT4.out.b.cell 1
                    have g0 : u4.cell? ⟨tb2, 0, none⟩ = some (.bool E0) := HU4.out.b.cell 0
                    have g1 : u4.cell? ⟨tb2, 1, none⟩ = some (.bool true) := HU4.out.b.cell 1
                    go_upto_region 17 with (go_at_call 22; (with_reducible refine (y_waits HZ4.out HE2.out.1 hm6 0 0 HNW.out).mono ?_); rintro e u5 ⟨rfl, h1⟩; have HZ5 := Lib.hid (HZ4.out.on h1); have HB5 := Lib.hid (HB4.out.on h1); have HT5 := Lib.hid (HT4.out.on h1); have HU5 := Lib.hid (HU4.out.on h1); clear h1)
                    clear e0 e1 e2 e3 d0 d1 g0 g1
                    have e1 : u5.cell? ⟨kb, 1, none⟩ = some (.int .i64 0) := HB5.out.b.cell 1
                    have d0 : u5.cell? ⟨tb1, 0, none⟩ = some (.bool false) := HT5.out.b.cell 0
                    have d1 : u5.cell? ⟨tb1, 1, none⟩ = some (.bool T1) := HT5.out.b.cell 1
                    have fd0 := HT5.out.b.frozen 0
                    have fd1 := HT5.out.b.frozen 1
                    go_region
                    clear e1 d0 d1 fd0 fd1
                    skip
                    obtain ⟨u6, hu6⟩ : ∃ w, (u5.setCell ⟨tb1, 0, none⟩ (.bool true)).drew = w := ⟨_, rfl⟩
                    try rw [hu6]
                    have kk : Ke [tb1] u5 u6 := by rw [← hu6]; exact ((Ke.refl [tb1] u5).set (p := ⟨tb1, 0, none⟩) (by simp) _).drew
                    have HZ6 := Lib.hid (HZ5.out.ke kk (fun y hy hx => by rw [List.mem_singleton.1 hx] at hy; exact HT5.out.n hy) (HZ5.out.l.trans (kk.below HZ5.out.l.size (fun x hx => by rw [List.mem_singleton.1 hx]; exact HTB.out.1))))
                    have HT6 := Lib.hid (show Bz u6 G5 tb1 4 #[.bool true, .bool T1] from ⟨by rw [← hu6]; exact (HT5.out.b.set 0 _).drew, HT5.out.n⟩)
                    have HU6 := Lib.hid (show Bz u6 G5 tb2 4 #[.bool E0, .bool true] from ⟨HU5.out.b.ke kk (by simpa using HTB.out.2.2.symm), HU5.out.n⟩)
                    clear hu6 kk
                    try go_wp2_with fail
                    go_meet
                    case rel => exact ⟨p2, G5, true, T1, E0, true, false, rfl, HZ6, HE2, HT6, HU6, HR2⟩
                  | false =>
                    obtain ⟨t, ht⟩ : ∃ t, l.length = t := ⟨_, rfl⟩
                    have HTT := Lib.hid ht
                    clear ht
                    go_upto_region 15 with (go_at_call 14; (with_reducible refine (y_out HZv.out HE.out.1 hm6 HFU.out 0 ox t l false p2 HRE.out HTT.out).mono ?_); rintro e u4 ⟨G5, A4, c4, rfl, h0, h1, h2⟩; have HZ4 := Lib.hid h1; have HB4 := Lib.hid (HB.out.step h2); have HT4 := Lib.hid (HTv.out.step h2); have HU4 := Lib.hid (HUv.out.step h2); clear h0 h1 h2)
                    clear e0 e1 e2 e3
                    have e0 : u4.cell? ⟨kb, 0, none⟩ = some (.int .i64 2) := HB4.out.b.cell 0
                    have e1 : u4.cell? ⟨kb, 1, none⟩ = some (.int .i64 0) := HB4.out.b.cell 1
                    have e2 : u4.cell? ⟨kb, 2, none⟩ = some (.slice oA on oc) := HB4.out.b.cell 2
                    have e3 : u4.cell? ⟨kb, 3, none⟩ = some (.int .i64 ox) := HB4.out.b.cell 3
                    have d0 : u4.cell? ⟨tb1, 0, none⟩ = some (.bool false) := HT4.out.b.cell 0
                    have d1 : u4.cell? ⟨tb1, 1, none⟩ = some (.bool T1) := HT4.out.b.cell 1
                    have g0 : u4.cell? ⟨tb2, 0, none⟩ = some (.bool E0) := HU4.out.b.cell 0
                    have g1 : u4.cell? ⟨tb2, 1, none⟩ = some (.bool E1) := HU4.out.b.cell 1
                    go_upto_region 17 with fail
                    clear e0 e1 e2 e3 d0 d1 g0 g1
                    have e1 : u4.cell? ⟨kb, 1, none⟩ = some (.int .i64 0) := HB4.out.b.cell 1
                    have d0 : u4.cell? ⟨tb1, 0, none⟩ = some (.bool false) := HT4.out.b.cell 0
                    have d1 : u4.cell? ⟨tb1, 1, none⟩ = some (.bool T1) := HT4.out.b.cell 1
                    have fd0 := HT4.out.b.frozen 0
                    have fd1 := HT4.out.b.frozen 1
                    go_region
                    clear e1 d0 d1 fd0 fd1
                    skip
                    obtain ⟨u6, hu6⟩ : ∃ w, (u4.setCell ⟨tb1, 0, none⟩ (.bool false)).drew = w := ⟨_, rfl⟩
                    try rw [hu6]
                    have kk : Ke [tb1] u4 u6 := by rw [← hu6]; exact ((Ke.refl [tb1] u4).set (p := ⟨tb1, 0, none⟩) (by simp) _).drew
                    have HZ6 := Lib.hid (HZ4.out.ke kk (fun y hy hx => by rw [List.mem_singleton.1 hx] at hy; exact HT4.out.n hy) (HZ4.out.l.trans (kk.below HZ4.out.l.size (fun x hx => by rw [List.mem_singleton.1 hx]; exact HTB.out.1))))
                    have HT6 := Lib.hid (show Bz u6 G5 tb1 4 #[.bool false, .bool T1] from ⟨by rw [← hu6]; exact (HT4.out.b.set 0 _).drew, HT4.out.n⟩)
                    have HU6 := Lib.hid (show Bz u6 G5 tb2 4 #[.bool E0, .bool E1] from ⟨HU4.out.b.ke kk (by simpa using HTB.out.2.2.symm), HU4.out.n⟩)
                    clear hu6 kk
                    try go_wp2_with fail
                    go_meet
                    case rel => exact ⟨p2, G5, false, T1, E0, E1, false, rfl, HZ6, HE2, HT6, HU6, HR2⟩
            · have h2b : (ow == 2) = false := by simp [h2]
              clear h2
              by_cases h3 : ow = 3
              · subst h3
                obtain ⟨⟨r, p2⟩, hR⟩ : ∃ R, endP p 0 = R := ⟨_, rfl⟩
                have HRE := Lib.hid hR
                have HO := Lib.hid (end_at (k := false) rfl hR)
                have HE2 := Lib.hid (show Gu M p2 ∧ Fi (i + 1) p2 from ⟨gu_end2 HE.out.1 hR, fi_end HE.out.2 hR⟩)
                have HR2 := Lib.hid (show B = p2.br ∧ T0 = p2.b.to ∧ T1 = p2.a.to ∧ (E0 || r) = p2.a.en ∧ E1 = p2.b.en from ⟨HR.out.1.trans HO.out.br.symm, HR.out.2.1.trans (congrArg Wy.to HO.out.same).symm, HR.out.2.2.1.trans HO.out.to.symm, by rw [HR.out.2.2.2.1]; exact HO.out.en.symm, HR.out.2.2.2.2.trans (congrArg Wy.en HO.out.same).symm⟩)
                have HN := Lib.hid (show r = (!B && !E0) by rw [HR.out.1, HR.out.2.2.2.1]; exact HO.out.is_)
                clear hR
                cases E0 with
                | true =>
                  obtain rfl : r = false := by rw [HN.out]; cases B <;> rfl
                  go_upto_region 20 with (go_at_call 16; (with_reducible refine (y_end HZv.out 0 false p2 HRE.out).mono ?_); rintro e u4 ⟨G5, rfl, h1, h2⟩; have HZ4 := Lib.hid h1; have HB4 := Lib.hid (HB.out.step h2); have HT4 := Lib.hid (HTv.out.step h2); have HU4 := Lib.hid (HUv.out.step h2); clear h1 h2)
                  clear e0 e1 e2 e3
                  have e1 : u4.cell? ⟨kb, 1, none⟩ = some (.int .i64 0) := HB4.out.b.cell 1
                  have g0 : u4.cell? ⟨tb2, 0, none⟩ = some (.bool true) := HU4.out.b.cell 0
                  have g1 : u4.cell? ⟨tb2, 1, none⟩ = some (.bool E1) := HU4.out.b.cell 1
                  have fg0 := HU4.out.b.frozen 0
                  have fg1 := HU4.out.b.frozen 1
                  go_upto_region 22 with fail
                  go_region
                  clear e1 g0 g1 fg0 fg1
                  obtain ⟨u6, hu6⟩ : ∃ w, (u4.setCell ⟨tb2, 0, none⟩ (.bool true)).drew = w := ⟨_, rfl⟩
                  try rw [hu6]
                  have kk : Ke [tb2] u4 u6 := by rw [← hu6]; exact ((Ke.refl [tb2] u4).set (p := ⟨tb2, 0, none⟩) (by simp) _).drew
                  have HZ6 := Lib.hid (HZ4.out.ke kk (fun y hy hx => by rw [List.mem_singleton.1 hx] at hy; exact HU4.out.n hy) (HZ4.out.l.trans (kk.below HZ4.out.l.size (fun x hx => by rw [List.mem_singleton.1 hx]; exact HTB.out.2.1))))
                  have HU6 := Lib.hid (show Bz u6 G5 tb2 4 #[.bool true, .bool E1] from ⟨by rw [← hu6]; exact (HU4.out.b.set 0 _).drew, HU4.out.n⟩)
                  have HT6 := Lib.hid (show Bz u6 G5 tb1 4 #[.bool T0, .bool T1] from ⟨HT4.out.b.ke kk (by simpa using HTB.out.2.2), HT4.out.n⟩)
                  clear hu6 kk
                  try go_wp2_with fail
                  go_meet
                  case rel => exact ⟨p2, G5, T0, T1, true, E1, B, rfl, HZ6, HE2, HT6, HU6, HR2⟩
                | false =>
                  have HNR := Lib.hid (show r = (!B) from by rw [HN.out]; cases B <;> rfl)
                  have hnr := HNR.out
                  subst hnr
                  have n8 : ((!B) != (!B)) = false := by cases B <;> rfl
                  go_upto_region 20 with (go_at_call 16; (with_reducible refine (y_end HZv.out 0 (!B) p2 HRE.out).mono ?_); rintro e u4 ⟨G5, rfl, h1, h2⟩; have HZ4 := Lib.hid h1; have HB4 := Lib.hid (HB.out.step h2); have HT4 := Lib.hid (HTv.out.step h2); have HU4 := Lib.hid (HUv.out.step h2); clear h1 h2)
                  clear e0 e1 e2 e3
                  have e1 : u4.cell? ⟨kb, 1, none⟩ = some (.int .i64 0) := HB4.out.b.cell 1
                  have g0 : u4.cell? ⟨tb2, 0, none⟩ = some (.bool false) := HU4.out.b.cell 0
                  have g1 : u4.cell? ⟨tb2, 1, none⟩ = some (.bool E1) := HU4.out.b.cell 1
                  have fg0 := HU4.out.b.frozen 0
                  have fg1 := HU4.out.b.frozen 1
                  go_upto_region 22 with fail
                  go_region
                  clear e1 g0 g1 fg0 fg1
                  obtain ⟨u6, hu6⟩ : ∃ w, (u4.setCell ⟨tb2, 0, none⟩ (.bool (!B))).drew = w := ⟨_, rfl⟩
                  try rw [hu6]
                  have kk : Ke [tb2] u4 u6 := by rw [← hu6]; exact ((Ke.refl [tb2] u4).set (p := ⟨tb2, 0, none⟩) (by simp) _).drew
                  have HZ6 := Lib.hid (HZ4.out.ke kk (fun y hy hx => by rw [List.mem_singleton.1 hx] at hy; exact HU4.out.n hy) (HZ4.out.l.trans (kk.below HZ4.out.l.size (fun x hx => by rw [List.mem_singleton.1 hx]; exact HTB.out.2.1))))
                  have HU6 := Lib.hid (show Bz u6 G5 tb2 4 #[.bool (!B), .bool E1] from ⟨by rw [← hu6]; exact (HU4.out.b.set 0 _).drew, HU4.out.n⟩)
                  have HT6 := Lib.hid (show Bz u6 G5 tb1 4 #[.bool T0, .bool T1] from ⟨HT4.out.b.ke kk (by simpa using HTB.out.2.2), HT4.out.n⟩)
                  clear hu6 kk
                  try go_wp2_with fail
                  go_meet
                  case rel => exact ⟨p2, G5, T0, T1, (!B), E1, B, rfl, HZ6, HE2, HT6, HU6, HR2⟩
              · have h3b : (ow == 3) = false := by simp [h3]
                clear h3
                by_cases h4 : ow = 4
                · subst h4
                  obtain ⟨p2, hp2⟩ : ∃ p2, brP p = p2 := ⟨_, rfl⟩
                  have HE2 := Lib.hid (show Gu M p2 ∧ Fi (i + 1) p2 by rw [← hp2]; exact ⟨gu_br HE.out.1, fi_br HE.out.2⟩)
                  have HR2 := Lib.hid (show true = p2.br ∧ T0 = p2.b.to ∧ T1 = p2.a.to ∧ E0 = p2.a.en ∧ E1 = p2.b.en by rw [← hp2]; exact ⟨rfl, HR.out.2⟩)
                  have HP2 := Lib.hid hp2
                  clear hp2
                  go_wp2_with (go_at_call 18; (with_reducible refine (y_brk HZv.out HE.out.1 hm6).mono ?_); rintro e u4 ⟨G5, rfl, h1, h2⟩; have HZ4 := Lib.hid (show Zu W u4 G5 pb M p2 by rw [← HP2.out]; exact h1); have HT4 := Lib.hid (HTv.out.step h2); have HU4 := Lib.hid (HUv.out.step h2); clear h1 h2)
                  clear e0 e1 e2 e3
                  try go_wp2_with fail
                  go_meet
                  case rel => exact ⟨p2, G5, T0, T1, E0, E1, true, rfl, HZ4, HE2, HT4, HU4, HR2⟩
                · have h4b : (ow == 4) = false := by simp [h4]
                  clear h4
                  obtain ⟨⟨r, p2⟩, hR⟩ : ∃ R, inP M p 0 ol = R := ⟨_, rfl⟩
                  have HRE := Lib.hid hR
                  have HO := Lib.hid (in_at (k := false) rfl hR)
                  have HE2 := Lib.hid (show Gu M p2 ∧ Fi (i + 1) p2 from ⟨gu_in2 HE.out.1 hR, fi_in HE.out.2 hR⟩)
                  have HR2 := Lib.hid (show B = p2.br ∧ T0 = p2.b.to ∧ T1 = p2.a.to ∧ E0 = p2.a.en ∧ E1 = p2.b.en from ⟨HR.out.1.trans HO.out.br.symm, HR.out.2.1.trans (congrArg Wy.to HO.out.same).symm, HR.out.2.2.1.trans HO.out.to.symm, HR.out.2.2.2.1.trans HO.out.en.symm, HR.out.2.2.2.2.trans (congrArg Wy.en HO.out.same).symm⟩)
                  have HN := Lib.hid (show 0 < r → B = false ∧ E0 = false from fun hh => ⟨HR.out.1.trans (HO.out.pos hh).1, HR.out.2.2.2.1.trans (HO.out.pos hh).2⟩)
                  have HOV2 := Lib.hid (HOK.out v HZv.out.l)
                  clear hR
                  by_cases hr : r = 0
                  · subst hr
                    go_wp2_with (go_at_call 20; (with_reducible refine (y_in HZv.out HE.out.1 hm6 0 oA on oc ol HON.out (HON.out ▸ HOV2.out.cap) HOV2.out.max (fun hh => HON.out ▸ HOV2.out.nil_ hh) (HOV2.out.rb.rf HZv.out.lo) 0 p2 HRE.out).mono ?_); rintro e u4 ⟨G5, rfl, h1, h2⟩; have HZ4 := Lib.hid h1; have HT4 := Lib.hid (HTv.out.step h2); have HU4 := Lib.hid (HUv.out.step h2); have k1 : u4.cell? ⟨kb, 1, none⟩ = some (.int .i64 0) := (HB.out.step h2).b.cell 1; have g0 : u4.cell? ⟨tb2, 0, none⟩ = some (.bool E0) := HU4.out.b.cell 0; clear h1 h2)
                    clear e0 e1 e2 e3 k1 g0
                    try go_wp2_with fail
                    go_meet
                    case rel => exact ⟨p2, G5, T0, T1, E0, E1, B, rfl, HZ4, HE2, HT4, HU4, HR2⟩
                  · obtain rfl : B = false := (HN.out (by omega)).1
                    obtain rfl : E0 = false := (HN.out (by omega)).2
                    have hr1 : (r : Int) > 0 := by omega
                    have hr2 : decide ((0 : Int) < (r : Int)) = true := decide_eq_true (by omega)
                    have hr3 : 0 < r := by omega
                    have hr4 : decide (0 < r) = true := decide_eq_true hr3
                    clear hr
                    go_wp2_with (go_at_call 20; (with_reducible refine (y_in HZv.out HE.out.1 hm6 0 oA on oc ol HON.out (HON.out ▸ HOV2.out.cap) HOV2.out.max (fun hh => HON.out ▸ HOV2.out.nil_ hh) (HOV2.out.rb.rf HZv.out.lo) r p2 HRE.out).mono ?_); rintro e u4 ⟨G5, rfl, h1, h2⟩; have HZ4 := Lib.hid h1; have HT4 := Lib.hid (HTv.out.step h2); have HU4 := Lib.hid (HUv.out.step h2); have k1 : u4.cell? ⟨kb, 1, none⟩ = some (.int .i64 0) := (HB.out.step h2).b.cell 1; have g0 : u4.cell? ⟨tb2, 0, none⟩ = some (.bool false) := HU4.out.b.cell 0; clear h1 h2)
                    clear e0 e1 e2 e3 k1 g0
                    try go_wp2_with fail
                    go_meet
                    case rel => exact ⟨p2, G5, T0, T1, false, E1, false, rfl, HZ4, HE2, HT4, HU4, HR2⟩
          case rest =>
            obtain ⟨p2, G5, T0, T1, E0, E1, B, rfl, HZ6, HE2, HT6, HU6, HR2⟩ := hcut
            have HOV := Lib.hid (show ovP p2 = (B || (T0 && T1)) by have h1 := HR2.out; unfold ovP; rw [← h1.1, ← h1.2.1, ← h1.2.2.1, Bool.and_comm])
            cases B with
            | true =>
              have hov := HOV.out
              have HOL := Lib.hid (show ovP p2 = true from hov)
              clear hov
              have n9 : (true != true) = false := rfl
              go_wp2_with (go_at_call 28; (with_reducible refine (y_over HZ6.out true HOL.out).mono ?_); rintro e y9 ⟨rfl, h1⟩; have HZ9 := Lib.hid (HZ6.out.on h1); have HT9 := Lib.hid (HT6.out.on h1); have HU9 := Lib.hid (HU6.out.on h1); clear h1; have d0 : y9.cell? ⟨tb1, 0, none⟩ = some (.bool T0) := HT9.out.b.cell 0; have d1 : y9.cell? ⟨tb1, 1, none⟩ = some (.bool T1) := HT9.out.b.cell 1)
              go_roundw
              case rel => exact ⟨i + 1, p2, G5, T0, T1, E0, E1, true, by omega, by first | rfl | trivial, by go_num, HZ9, HE2, HT9, HU9, HR2⟩
              case measure => simp [intOf] <;> omega
            | false =>
              cases T0 with
              | true =>
                have hov := HOV.out
                have HOL := Lib.hid (show ovP p2 = T1 from hov)
                clear hov
                have n9 : (T1 != T1) = false := by cases T1 <;> rfl
                go_wp2_with (go_at_call 28; (with_reducible refine (y_over HZ6.out T1 HOL.out).mono ?_); rintro e y9 ⟨rfl, h1⟩; have HZ9 := Lib.hid (HZ6.out.on h1); have HT9 := Lib.hid (HT6.out.on h1); have HU9 := Lib.hid (HU6.out.on h1); clear h1; have d0 : y9.cell? ⟨tb1, 0, none⟩ = some (.bool true) := HT9.out.b.cell 0; have d1 : y9.cell? ⟨tb1, 1, none⟩ = some (.bool T1) := HT9.out.b.cell 1)
                go_roundw
                case rel => exact ⟨i + 1, p2, G5, true, T1, E0, E1, false, by omega, by first | rfl | trivial, by go_num, HZ9, HE2, HT9, HU9, HR2⟩
                case measure => simp [intOf] <;> omega
              | false =>
                have hov := HOV.out
                have HOL := Lib.hid (show ovP p2 = false from hov)
                clear hov
                have n9 : (false != false) = false := rfl
                go_wp2_with (go_at_call 28; (with_reducible refine (y_over HZ6.out false HOL.out).mono ?_); rintro e y9 ⟨rfl, h1⟩; have HZ9 := Lib.hid (HZ6.out.on h1); have HT9 := Lib.hid (HT6.out.on h1); have HU9 := Lib.hid (HU6.out.on h1); clear h1; have d0 : y9.cell? ⟨tb1, 0, none⟩ = some (.bool false) := HT9.out.b.cell 0; have d1 : y9.cell? ⟨tb1, 1, none⟩ = some (.bool T1) := HT9.out.b.cell 1)
                go_roundw
                case rel => exact ⟨i + 1, p2, G5, false, T1, E0, E1, false, by omega, by first | rfl | trivial, by go_num, HZ9, HE2, HT9, HU9, HR2⟩
                case measure => simp [intOf] <;> omega
      · by_cases hs1 : os = 1
        · subst hs1
          have hw0 : IntKind.i64.wrap (1 - 0) = 1 := by decide
          have hw1 : IntKind.i64.wrap (1 - 1) = 0 := by decide
          have hw2 : IntKind.i64.wrap 1 = 1 := by decide
          have hw3 : IntKind.i64.wrap 0 = 0 := by decide
          as_aux_lemma =>
            go_upto_if 52 with fail
            go_cut [9, 12, 13, 14] from 32 to 183 (fun v9 v12 v13 v14 wx => ∃ (p2 : Pu) (G5 : List Nat) (T0 T1 E0 E1 B : Bool), v9 = .bool B ∧ Hid (Zu W wx G5 pb M p2) ∧ Hid (Gu M p2 ∧ Fi (i + 1) p2) ∧ Hid (Bz wx G5 tb1 4 #[.bool T0, .bool T1]) ∧ Hid (Bz wx G5 tb2 4 #[.bool E0, .bool E1]) ∧ Hid (B = p2.br ∧ T0 = p2.b.to ∧ T1 = p2.a.to ∧ E0 = p2.a.en ∧ E1 = p2.b.en))
            case first =>
              by_cases h2 : ow = 2
              · subst h2
                have h2c : ((2 : Int) == 2) = true := rfl
                obtain ⟨⟨⟨l, b⟩, p2⟩, hR⟩ : ∃ R, outP p 1 ox = R := ⟨_, rfl⟩
                have HRE := Lib.hid hR
                have HO := Lib.hid (out_at (k := true) rfl HE.out.1 hR)
                have HE2 := Lib.hid (show Gu M p2 ∧ Fi (i + 1) p2 from ⟨gu_out2 HE.out.1 hR, fi_out HE.out.2 HE.out.1 hm6 hR⟩)
                have HR2 := Lib.hid (show B = p2.br ∧ T0 = p2.b.to ∧ (T1 || b) = p2.a.to ∧ E0 = p2.a.en ∧ E1 = p2.b.en from ⟨HR.out.1.trans HO.out.br.symm, HR.out.2.1.trans (congrArg Wy.to HO.out.same).symm, by rw [HR.out.2.2.1]; exact HO.out.to.symm, HR.out.2.2.2.1.trans HO.out.en.symm, HR.out.2.2.2.2.trans (congrArg Wy.en HO.out.same).symm⟩)
                have HN := Lib.hid (show (B = true → l = [] ∧ b = false) ∧ (T1 = true → l = [] ∧ b = false) ∧ (b = true → B = false ∧ E0 = true ∧ wtP p2 1 = 0) from ⟨fun hh => HO.out.brk (HR.out.1 ▸ hh), fun hh => HO.out.told (HR.out.2.2.1 ▸ hh), fun hh => ⟨HR.out.1.trans (HO.out.end_ hh).1, HR.out.2.2.2.1.trans (HO.out.end_ hh).2.1, by show (p2.w !true).q.length = 0; rw [(HO.out.end_ hh).2.2]; rfl⟩⟩)
                clear hR
                cases B with
                | true =>
                  obtain rfl : b = false := (HN.out.1 rfl).2
                  cases T1 with
                  | true =>
                    obtain rfl : l = [] := (HN.out.1 rfl).1
                    go_upto_region 15 with (go_at_call 14; (with_reducible refine (y_out HZv.out HE.out.1 hm6 HFU.out 1 ox 0 [] false p2 HRE.out rfl).mono ?_); rintro e u4 ⟨G5, A4, c4, rfl, h0, h1, h2⟩; have HZ4 := Lib.hid h1; have HB4 := Lib.hid (HB.out.step h2); have HT4 := Lib.hid (HTv.out.step h2); have HU4 := Lib.hid (HUv.out.step h2); clear h0 h1 h2)
                    clear e0 e1 e2 e3
                    have e0 : u4.cell? ⟨kb, 0, none⟩ = some (.int .i64 2) := HB4.out.b.cell 0
                    have e1 : u4.cell? ⟨kb, 1, none⟩ = some (.int .i64 1) := HB4.out.b.cell 1
                    have e2 : u4.cell? ⟨kb, 2, none⟩ = some (.slice oA on oc) := HB4.out.b.cell 2
                    have e3 : u4.cell? ⟨kb, 3, none⟩ = some (.int .i64 ox) := HB4.out.b.cell 3
                    have d0 : u4.cell? ⟨tb1, 0, none⟩ = some (.bool T0) := HT4.out.b.cell 0
                    have d1 : u4.cell? ⟨tb1, 1, none⟩ = some (.bool true) := HT4.out.b.cell 1
                    have g0 : u4.cell? ⟨tb2, 0, none⟩ = some (.bool E0) := HU4.out.b.cell 0
                    have g1 : u4.cell? ⟨tb2, 1, none⟩ = some (.bool E1) := HU4.out.b.cell 1
                    go_upto_region 17 with fail
                    clear e0 e1 e2 e3 d0 d1 g0 g1
                    have e1 : u4.cell? ⟨kb, 1, none⟩ = some (.int .i64 1) := HB4.out.b.cell 1
                    have d0 : u4.cell? ⟨tb1, 0, none⟩ = some (.bool T0) := HT4.out.b.cell 0
                    have d1 : u4.cell? ⟨tb1, 1, none⟩ = some (.bool true) := HT4.out.b.cell 1
                    have fd0 := HT4.out.b.frozen 0
                    have fd1 := HT4.out.b.frozen 1
                    go_region
                    clear e1 d0 d1 fd0 fd1
                    skip
                    obtain ⟨u6, hu6⟩ : ∃ w, (u4.setCell ⟨tb1, 1, none⟩ (.bool true)).drew = w := ⟨_, rfl⟩
                    try rw [hu6]
                    have kk : Ke [tb1] u4 u6 := by rw [← hu6]; exact ((Ke.refl [tb1] u4).set (p := ⟨tb1, 1, none⟩) (by simp) _).drew
                    have HZ6 := Lib.hid (HZ4.out.ke kk (fun y hy hx => by rw [List.mem_singleton.1 hx] at hy; exact HT4.out.n hy) (HZ4.out.l.trans (kk.below HZ4.out.l.size (fun x hx => by rw [List.mem_singleton.1 hx]; exact HTB.out.1))))
                    have HT6 := Lib.hid (show Bz u6 G5 tb1 4 #[.bool T0, .bool true] from ⟨by rw [← hu6]; exact (HT4.out.b.set 1 _).drew, HT4.out.n⟩)
                    have HU6 := Lib.hid (show Bz u6 G5 tb2 4 #[.bool E0, .bool E1] from ⟨HU4.out.b.ke kk (by simpa using HTB.out.2.2.symm), HU4.out.n⟩)
                    clear hu6 kk
                    try go_wp2_with fail
                    go_meet
                    case rel => exact ⟨p2, G5, T0, true, E0, E1, true, rfl, HZ6, HE2, HT6, HU6, HR2⟩
                  | false =>
                    obtain rfl : l = [] := (HN.out.1 rfl).1
                    go_upto_region 15 with (go_at_call 14; (with_reducible refine (y_out HZv.out HE.out.1 hm6 HFU.out 1 ox 0 [] false p2 HRE.out rfl).mono ?_); rintro e u4 ⟨G5, A4, c4, rfl, h0, h1, h2⟩; have HZ4 := Lib.hid h1; have HB4 := Lib.hid (HB.out.step h2); have HT4 := Lib.hid (HTv.out.step h2); have HU4 := Lib.hid (HUv.out.step h2); clear h0 h1 h2)
                    clear e0 e1 e2 e3
                    have e0 : u4.cell? ⟨kb, 0, none⟩ = some (.int .i64 2) := HB4.out.b.cell 0
                    have e1 : u4.cell? ⟨kb, 1, none⟩ = some (.int .i64 1) := HB4.out.b.cell 1
                    have e2 : u4.cell? ⟨kb, 2, none⟩ = some (.slice oA on oc) := HB4.out.b.cell 2
                    have e3 : u4.cell? ⟨kb, 3, none⟩ = some (.int .i64 ox) := HB4.out.b.cell 3
                    have d0 : u4.cell? ⟨tb1, 0, none⟩ = some (.bool T0) := HT4.out.b.cell 0
                    have d1 : u4.cell? ⟨tb1, 1, none⟩ = some (.bool false) := HT4.out.b.cell 1
                    have g0 : u4.cell? ⟨tb2, 0, none⟩ = some (.bool E0) := HU4.out.b.cell 0
                    have g1 : u4.cell? ⟨tb2, 1, none⟩ = some (.bool E1) := HU4.out.b.cell 1
                    go_upto_region 17 with fail
                    clear e0 e1 e2 e3 d0 d1 g0 g1
                    have e1 : u4.cell? ⟨kb, 1, none⟩ = some (.int .i64 1) := HB4.out.b.cell 1
                    have d0 : u4.cell? ⟨tb1, 0, none⟩ = some (.bool T0) := HT4.out.b.cell 0
                    have d1 : u4.cell? ⟨tb1, 1, none⟩ = some (.bool false) := HT4.out.b.cell 1
                    have fd0 := HT4.out.b.frozen 0
                    have fd1 := HT4.out.b.frozen 1
                    go_region
                    clear e1 d0 d1 fd0 fd1
                    skip
                    obtain ⟨u6, hu6⟩ : ∃ w, (u4.setCell ⟨tb1, 1, none⟩ (.bool false)).drew = w := ⟨_, rfl⟩
                    try rw [hu6]
                    have kk : Ke [tb1] u4 u6 := by rw [← hu6]; exact ((Ke.refl [tb1] u4).set (p := ⟨tb1, 1, none⟩) (by simp) _).drew
                    have HZ6 := Lib.hid (HZ4.out.ke kk (fun y hy hx => by rw [List.mem_singleton.1 hx] at hy; exact HT4.out.n hy) (HZ4.out.l.trans (kk.below HZ4.out.l.size (fun x hx => by rw [List.mem_singleton.1 hx]; exact HTB.out.1))))
                    have HT6 := Lib.hid (show Bz u6 G5 tb1 4 #[.bool T0, .bool false] from ⟨by rw [← hu6]; exact (HT4.out.b.set 1 _).drew, HT4.out.n⟩)
                    have HU6 := Lib.hid (show Bz u6 G5 tb2 4 #[.bool E0, .bool E1] from ⟨HU4.out.b.ke kk (by simpa using HTB.out.2.2.symm), HU4.out.n⟩)
                    clear hu6 kk
                    try go_wp2_with fail
                    go_meet
                    case rel => exact ⟨p2, G5, T0, false, E0, E1, true, rfl, HZ6, HE2, HT6, HU6, HR2⟩
                | false =>
                  cases T1 with
                  | true =>
                    obtain rfl : b = false := (HN.out.2.1 rfl).2
                    obtain rfl : l = [] := (HN.out.2.1 rfl).1
                    go_upto_region 15 with (go_at_call 14; (with_reducible refine (y_out HZv.out HE.out.1 hm6 HFU.out 1 ox 0 [] false p2 HRE.out rfl).mono ?_); rintro e u4 ⟨G5, A4, c4, rfl, h0, h1, h2⟩; have HZ4 := Lib.hid h1; have HB4 := Lib.hid (HB.out.step h2); have HT4 := Lib.hid (HTv.out.step h2); have HU4 := Lib.hid (HUv.out.step h2); clear h0 h1 h2)
                    clear e0 e1 e2 e3
                    have e0 : u4.cell? ⟨kb, 0, none⟩ = some (.int .i64 2) := HB4.out.b.cell 0
                    have e1 : u4.cell? ⟨kb, 1, none⟩ = some (.int .i64 1) := HB4.out.b.cell 1
                    have e2 : u4.cell? ⟨kb, 2, none⟩ = some (.slice oA on oc) := HB4.out.b.cell 2
                    have e3 : u4.cell? ⟨kb, 3, none⟩ = some (.int .i64 ox) := HB4.out.b.cell 3
                    have d0 : u4.cell? ⟨tb1, 0, none⟩ = some (.bool T0) := HT4.out.b.cell 0
                    have d1 : u4.cell? ⟨tb1, 1, none⟩ = some (.bool true) := HT4.out.b.cell 1
                    have g0 : u4.cell? ⟨tb2, 0, none⟩ = some (.bool E0) := HU4.out.b.cell 0
                    have g1 : u4.cell? ⟨tb2, 1, none⟩ = some (.bool E1) := HU4.out.b.cell 1
                    go_upto_region 17 with fail
                    clear e0 e1 e2 e3 d0 d1 g0 g1
                    have e1 : u4.cell? ⟨kb, 1, none⟩ = some (.int .i64 1) := HB4.out.b.cell 1
                    have d0 : u4.cell? ⟨tb1, 0, none⟩ = some (.bool T0) := HT4.out.b.cell 0
                    have d1 : u4.cell? ⟨tb1, 1, none⟩ = some (.bool true) := HT4.out.b.cell 1
                    have fd0 := HT4.out.b.frozen 0
                    have fd1 := HT4.out.b.frozen 1
                    go_region
                    clear e1 d0 d1 fd0 fd1
                    skip
                    obtain ⟨u6, hu6⟩ : ∃ w, (u4.setCell ⟨tb1, 1, none⟩ (.bool true)).drew = w := ⟨_, rfl⟩
                    try rw [hu6]
                    have kk : Ke [tb1] u4 u6 := by rw [← hu6]; exact ((Ke.refl [tb1] u4).set (p := ⟨tb1, 1, none⟩) (by simp) _).drew
                    have HZ6 := Lib.hid (HZ4.out.ke kk (fun y hy hx => by rw [List.mem_singleton.1 hx] at hy; exact HT4.out.n hy) (HZ4.out.l.trans (kk.below HZ4.out.l.size (fun x hx => by rw [List.mem_singleton.1 hx]; exact HTB.out.1))))
                    have HT6 := Lib.hid (show Bz u6 G5 tb1 4 #[.bool T0, .bool true] from ⟨by rw [← hu6]; exact (HT4.out.b.set 1 _).drew, HT4.out.n⟩)
                    have HU6 := Lib.hid (show Bz u6 G5 tb2 4 #[.bool E0, .bool E1] from ⟨HU4.out.b.ke kk (by simpa using HTB.out.2.2.symm), HU4.out.n⟩)
                    clear hu6 kk
                    try go_wp2_with fail
                    go_meet
                    case rel => exact ⟨p2, G5, T0, true, E0, E1, false, rfl, HZ6, HE2, HT6, HU6, HR2⟩
                  | false =>
                    cases b with
                    | true =>
                      have HNW := Lib.hid (HN.out.2.2 rfl).2.2
                      obtain rfl : E0 = true := (HN.out.2.2 rfl).2.1
                      obtain ⟨t, ht⟩ : ∃ t, l.length = t := ⟨_, rfl⟩
                      have HTT := Lib.hid ht
                      clear ht
                      go_upto_region 15 with (go_at_call 14; (with_reducible refine (y_out HZv.out HE.out.1 hm6 HFU.out 1 ox t l true p2 HRE.out HTT.out).mono ?_); rintro e u4 ⟨G5, A4, c4, rfl, h0, h1, h2⟩; have HZ4 := Lib.hid h1; have HB4 := Lib.hid (HB.out.step h2); have HT4 := Lib.hid (HTv.out.step h2); have HU4 := Lib.hid (HUv.out.step h2); clear h0 h1 h2)
                      clear e0 e1 e2 e3
                      have e0 : u4.cell? ⟨kb, 0, none⟩ = some (.int .i64 2) := HB4.out.b.cell 0
                      have e1 : u4.cell? ⟨kb, 1, none⟩ = some (.int .i64 1) := HB4.out.b.cell 1
                      have e2 : u4.cell? ⟨kb, 2, none⟩ = some (.slice oA on oc) := HB4.out.b.cell 2
                      have e3 : u4.cell? ⟨kb, 3, none⟩ = some (.int .i64 ox) := HB4.out.b.cell 3
                      have d0 : u4.cell? ⟨tb1, 0, none⟩ = some (.bool T0) := HT4.out.b.cell 0
                      have d1 : u4.cell? ⟨tb1, 1, none⟩ = some (.bool false) := HT4.out.b.cell 1
                      have g0 : u4.cell? ⟨tb2, 0, none⟩ = some (.bool true) := HU4.out.b.cell 0
                      have g1 : u4.cell? ⟨tb2, 1, none⟩ = some (.bool E1) := HU4.out.b.cell 1
                      go_upto_region 17 with (go_at_call 22; (with_reducible refine (y_waits HZ4.out HE2.out.1 hm6 1 0 HNW.out).mono ?_); rintro e u5 ⟨rfl, h1⟩; have HZ5 := Lib.hid (HZ4.out.on h1); have HB5 := Lib.hid (HB4.out.on h1); have HT5 := Lib.hid (HT4.out.on h1); have HU5 := Lib.hid (HU4.out.on h1); clear h1)
                      clear e0 e1 e2 e3 d0 d1 g0 g1
                      have e1 : u5.cell? ⟨kb, 1, none⟩ = some (.int .i64 1) := HB5.out.b.cell 1
                      have d0 : u5.cell? ⟨tb1, 0, none⟩ = some (.bool T0) := HT5.out.b.cell 0
                      have d1 : u5.cell? ⟨tb1, 1, none⟩ = some (.bool false) := HT5.out.b.cell 1
                      have fd0 := HT5.out.b.frozen 0
                      have fd1 := HT5.out.b.frozen 1
                      go_region
                      clear e1 d0 d1 fd0 fd1
                      skip
                      obtain ⟨u6, hu6⟩ : ∃ w, (u5.setCell ⟨tb1, 1, none⟩ (.bool true)).drew = w := ⟨_, rfl⟩
                      try rw [hu6]
                      have kk : Ke [tb1] u5 u6 := by rw [← hu6]; exact ((Ke.refl [tb1] u5).set (p := ⟨tb1, 1, none⟩) (by simp) _).drew
                      have HZ6 := Lib.hid (HZ5.out.ke kk (fun y hy hx => by rw [List.mem_singleton.1 hx] at hy; exact HT5.out.n hy) (HZ5.out.l.trans (kk.below HZ5.out.l.size (fun x hx => by rw [List.mem_singleton.1 hx]; exact HTB.out.1))))
                      have HT6 := Lib.hid (show Bz u6 G5 tb1 4 #[.bool T0, .bool true] from ⟨by rw [← hu6]; exact (HT5.out.b.set 1 _).drew, HT5.out.n⟩)
                      have HU6 := Lib.hid (show Bz u6 G5 tb2 4 #[.bool true, .bool E1] from ⟨HU5.out.b.ke kk (by simpa using HTB.out.2.2.symm), HU5.out.n⟩)
                      clear hu6 kk
                      try go_wp2_with fail
                      go_meet
                      case rel => exact ⟨p2, G5, T0, true, true, E1, false, rfl, HZ6, HE2, HT6, HU6, HR2⟩
                    | false =>
                      obtain ⟨t, ht⟩ : ∃ t, l.length = t := ⟨_, rfl⟩
                      have HTT := Lib.hid ht
                      clear ht
                      go_upto_region 15 with (go_at_call 14; (with_reducible refine (y_out HZv.out HE.out.1 hm6 HFU.out 1 ox t l false p2 HRE.out HTT.out).mono ?_); rintro e u4 ⟨G5, A4, c4, rfl, h0, h1, h2⟩; have HZ4 := Lib.hid h1; have HB4 := Lib.hid (HB.out.step h2); have HT4 := Lib.hid (HTv.out.step h2); have HU4 := Lib.hid (HUv.out.step h2); clear h0 h1 h2)
                      clear e0 e1 e2 e3
                      have e0 : u4.cell? ⟨kb, 0, none⟩ = some (.int .i64 2) := HB4.out.b.cell 0
                      have e1 : u4.cell? ⟨kb, 1, none⟩ = some (.int .i64 1) := HB4.out.b.cell 1
                      have e2 : u4.cell? ⟨kb, 2, none⟩ = some (.slice oA on oc) := HB4.out.b.cell 2
                      have e3 : u4.cell? ⟨kb, 3, none⟩ = some (.int .i64 ox) := HB4.out.b.cell 3
                      have d0 : u4.cell? ⟨tb1, 0, none⟩ = some (.bool T0) := HT4.out.b.cell 0
                      have d1 : u4.cell? ⟨tb1, 1, none⟩ = some (.bool false) := HT4.out.b.cell 1
                      have g0 : u4.cell? ⟨tb2, 0, none⟩ = some (.bool E0) := HU4.out.b.cell 0
                      have g1 : u4.cell? ⟨tb2, 1, none⟩ = some (.bool E1) := HU4.out.b.cell 1
                      go_upto_region 17 with fail
                      clear e0 e1 e2 e3 d0 d1 g0 g1
                      have e1 : u4.cell? ⟨kb, 1, none⟩ = some (.int .i64 1) := HB4.out.b.cell 1
                      have d0 : u4.cell? ⟨tb1, 0, none⟩ = some (.bool T0) := HT4.out.b.cell 0
                      have d1 : u4.cell? ⟨tb1, 1, none⟩ = some (.bool false) := HT4.out.b.cell 1
                      have fd0 := HT4.out.b.frozen 0
                      have fd1 := HT4.out.b.frozen 1
                      go_region
                      clear e1 d0 d1 fd0 fd1
                      skip
                      obtain ⟨u6, hu6⟩ : ∃ w, (u4.setCell ⟨tb1, 1, none⟩ (.bool false)).drew = w := ⟨_, rfl⟩
                      try rw [hu6]
                      have kk : Ke [tb1] u4 u6 := by rw [← hu6]; exact ((Ke.refl [tb1] u4).set (p := ⟨tb1, 1, none⟩) (by simp) _).drew
                      have HZ6 := Lib.hid (HZ4.out.ke kk (fun y hy hx => by rw [List.mem_singleton.1 hx] at hy; exact HT4.out.n hy) (HZ4.out.l.trans (kk.below HZ4.out.l.size (fun x hx => by rw [List.mem_singleton.1 hx]; exact HTB.out.1))))
                      have HT6 := Lib.hid (show Bz u6 G5 tb1 4 #[.bool T0, .bool false] from ⟨by rw [← hu6]; exact (HT4.out.b.set 1 _).drew, HT4.out.n⟩)
                      have HU6 := Lib.hid (show Bz u6 G5 tb2 4 #[.bool E0, .bool E1] from ⟨HU4.out.b.ke kk (by simpa using HTB.out.2.2.symm), HU4.out.n⟩)
                      clear hu6 kk
                      try go_wp2_with fail
                      go_meet
                      case rel => exact ⟨p2, G5, T0, false, E0, E1, false, rfl, HZ6, HE2, HT6, HU6, HR2⟩
              · have h2b : (ow == 2) = false := by simp [h2]
                clear h2
                by_cases h3 : ow = 3
                · subst h3
                  obtain ⟨⟨r, p2⟩, hR⟩ : ∃ R, endP p 1 = R := ⟨_, rfl⟩
                  have HRE := Lib.hid hR
                  have HO := Lib.hid (end_at (k := true) rfl hR)
                  have HE2 := Lib.hid (show Gu M p2 ∧ Fi (i + 1) p2 from ⟨gu_end2 HE.out.1 hR, fi_end HE.out.2 hR⟩)
                  have HR2 := Lib.hid (show B = p2.br ∧ T0 = p2.b.to ∧ T1 = p2.a.to ∧ E0 = p2.a.en ∧ (E1 || r) = p2.b.en from ⟨HR.out.1.trans HO.out.br.symm, HR.out.2.1.trans HO.out.to.symm, HR.out.2.2.1.trans (congrArg Wy.to HO.out.same).symm, HR.out.2.2.2.1.trans (congrArg Wy.en HO.out.same).symm, by rw [HR.out.2.2.2.2]; exact HO.out.en.symm⟩)
                  have HN := Lib.hid (show r = (!B && !E1) by rw [HR.out.1, HR.out.2.2.2.2]; exact HO.out.is_)
                  clear hR
                  cases E1 with
                  | true =>
                    obtain rfl : r = false := by rw [HN.out]; cases B <;> rfl
                    go_upto_region 20 with (go_at_call 16; (with_reducible refine (y_end HZv.out 1 false p2 HRE.out).mono ?_); rintro e u4 ⟨G5, rfl, h1, h2⟩; have HZ4 := Lib.hid h1; have HB4 := Lib.hid (HB.out.step h2); have HT4 := Lib.hid (HTv.out.step h2); have HU4 := Lib.hid (HUv.out.step h2); clear h1 h2)
                    clear e0 e1 e2 e3
                    have e1 : u4.cell? ⟨kb, 1, none⟩ = some (.int .i64 1) := HB4.out.b.cell 1
                    have g0 : u4.cell? ⟨tb2, 0, none⟩ = some (.bool E0) := HU4.out.b.cell 0
                    have g1 : u4.cell? ⟨tb2, 1, none⟩ = some (.bool true) := HU4.out.b.cell 1
                    have fg0 := HU4.out.b.frozen 0
                    have fg1 := HU4.out.b.frozen 1
                    go_upto_region 22 with fail
                    go_region
                    clear e1 g0 g1 fg0 fg1
                    obtain ⟨u6, hu6⟩ : ∃ w, (u4.setCell ⟨tb2, 1, none⟩ (.bool true)).drew = w := ⟨_, rfl⟩
                    try rw [hu6]
                    have kk : Ke [tb2] u4 u6 := by rw [← hu6]; exact ((Ke.refl [tb2] u4).set (p := ⟨tb2, 1, none⟩) (by simp) _).drew
                    have HZ6 := Lib.hid (HZ4.out.ke kk (fun y hy hx => by rw [List.mem_singleton.1 hx] at hy; exact HU4.out.n hy) (HZ4.out.l.trans (kk.below HZ4.out.l.size (fun x hx => by rw [List.mem_singleton.1 hx]; exact HTB.out.2.1))))
                    have HU6 := Lib.hid (show Bz u6 G5 tb2 4 #[.bool E0, .bool true] from ⟨by rw [← hu6]; exact (HU4.out.b.set 1 _).drew, HU4.out.n⟩)
                    have HT6 := Lib.hid (show Bz u6 G5 tb1 4 #[.bool T0, .bool T1] from ⟨HT4.out.b.ke kk (by simpa using HTB.out.2.2), HT4.out.n⟩)
                    clear hu6 kk
                    try go_wp2_with fail
                    go_meet
                    case rel => exact ⟨p2, G5, T0, T1, E0, true, B, rfl, HZ6, HE2, HT6, HU6, HR2⟩
                  | false =>
                    have HNR := Lib.hid (show r = (!B) from by rw [HN.out]; cases B <;> rfl)
                    have hnr := HNR.out
                    subst hnr
                    have n8 : ((!B) != (!B)) = false := by cases B <;> rfl
                    go_upto_region 20 with (go_at_call 16; (with_reducible refine (y_end HZv.out 1 (!B) p2 HRE.out).mono ?_); rintro e u4 ⟨G5, rfl, h1, h2⟩; have HZ4 := Lib.hid h1; have HB4 := Lib.hid (HB.out.step h2); have HT4 := Lib.hid (HTv.out.step h2); have HU4 := Lib.hid (HUv.out.step h2); clear h1 h2)
                    clear e0 e1 e2 e3
                    have e1 : u4.cell? ⟨kb, 1, none⟩ = some (.int .i64 1) := HB4.out.b.cell 1
                    have g0 : u4.cell? ⟨tb2, 0, none⟩ = some (.bool E0) := HU4.out.b.cell 0
                    have g1 : u4.cell? ⟨tb2, 1, none⟩ = some (.bool false) := HU4.out.b.cell 1
                    have fg0 := HU4.out.b.frozen 0
                    have fg1 := HU4.out.b.frozen 1
                    go_upto_region 22 with fail
                    go_region
                    clear e1 g0 g1 fg0 fg1
                    obtain ⟨u6, hu6⟩ : ∃ w, (u4.setCell ⟨tb2, 1, none⟩ (.bool (!B))).drew = w := ⟨_, rfl⟩
                    try rw [hu6]
                    have kk : Ke [tb2] u4 u6 := by rw [← hu6]; exact ((Ke.refl [tb2] u4).set (p := ⟨tb2, 1, none⟩) (by simp) _).drew
                    have HZ6 := Lib.hid (HZ4.out.ke kk (fun y hy hx => by rw [List.mem_singleton.1 hx] at hy; exact HU4.out.n hy) (HZ4.out.l.trans (kk.below HZ4.out.l.size (fun x hx => by rw [List.mem_singleton.1 hx]; exact HTB.out.2.1))))
                    have HU6 := Lib.hid (show Bz u6 G5 tb2 4 #[.bool E0, .bool (!B)] from ⟨by rw [← hu6]; exact (HU4.out.b.set 1 _).drew, HU4.out.n⟩)
                    have HT6 := Lib.hid (show Bz u6 G5 tb1 4 #[.bool T0, .bool T1] from ⟨HT4.out.b.ke kk (by simpa using HTB.out.2.2), HT4.out.n⟩)
                    clear hu6 kk
                    try go_wp2_with fail
                    go_meet
                    case rel => exact ⟨p2, G5, T0, T1, E0, (!B), B, rfl, HZ6, HE2, HT6, HU6, HR2⟩
                · have h3b : (ow == 3) = false := by simp [h3]
                  clear h3
                  by_cases h4 : ow = 4
                  · subst h4
                    obtain ⟨p2, hp2⟩ : ∃ p2, brP p = p2 := ⟨_, rfl⟩
                    have HE2 := Lib.hid (show Gu M p2 ∧ Fi (i + 1) p2 by rw [← hp2]; exact ⟨gu_br HE.out.1, fi_br HE.out.2⟩)
                    have HR2 := Lib.hid (show true = p2.br ∧ T0 = p2.b.to ∧ T1 = p2.a.to ∧ E0 = p2.a.en ∧ E1 = p2.b.en by rw [← hp2]; exact ⟨rfl, HR.out.2⟩)
                    have HP2 := Lib.hid hp2
                    clear hp2
                    go_wp2_with (go_at_call 18; (with_reducible refine (y_brk HZv.out HE.out.1 hm6).mono ?_); rintro e u4 ⟨G5, rfl, h1, h2⟩; have HZ4 := Lib.hid (show Zu W u4 G5 pb M p2 by rw [← HP2.out]; exact h1); have HT4 := Lib.hid (HTv.out.step h2); have HU4 := Lib.hid (HUv.out.step h2); clear h1 h2)
                    clear e0 e1 e2 e3
                    try go_wp2_with fail
                    go_meet
                    case rel => exact ⟨p2, G5, T0, T1, E0, E1, true, rfl, HZ4, HE2, HT4, HU4, HR2⟩
                  · have h4b : (ow == 4) = false := by simp [h4]
                    clear h4
                    obtain ⟨⟨r, p2⟩, hR⟩ : ∃ R, inP M p 1 ol = R := ⟨_, rfl⟩
                    have HRE := Lib.hid hR
                    have HO := Lib.hid (in_at (k := true) rfl hR)
                    have HE2 := Lib.hid (show Gu M p2 ∧ Fi (i + 1) p2 from ⟨gu_in2 HE.out.1 hR, fi_in HE.out.2 hR⟩)
                    have HR2 := Lib.hid (show B = p2.br ∧ T0 = p2.b.to ∧ T1 = p2.a.to ∧ E0 = p2.a.en ∧ E1 = p2.b.en from ⟨HR.out.1.trans HO.out.br.symm, HR.out.2.1.trans HO.out.to.symm, HR.out.2.2.1.trans (congrArg Wy.to HO.out.same).symm, HR.out.2.2.2.1.trans (congrArg Wy.en HO.out.same).symm, HR.out.2.2.2.2.trans HO.out.en.symm⟩)
                    have HN := Lib.hid (show 0 < r → B = false ∧ E1 = false from fun hh => ⟨HR.out.1.trans (HO.out.pos hh).1, HR.out.2.2.2.2.trans (HO.out.pos hh).2⟩)
                    have HOV2 := Lib.hid (HOK.out v HZv.out.l)
                    clear hR
                    by_cases hr : r = 0
                    · subst hr
                      go_wp2_with (go_at_call 20; (with_reducible refine (y_in HZv.out HE.out.1 hm6 1 oA on oc ol HON.out (HON.out ▸ HOV2.out.cap) HOV2.out.max (fun hh => HON.out ▸ HOV2.out.nil_ hh) (HOV2.out.rb.rf HZv.out.lo) 0 p2 HRE.out).mono ?_); rintro e u4 ⟨G5, rfl, h1, h2⟩; have HZ4 := Lib.hid h1; have HT4 := Lib.hid (HTv.out.step h2); have HU4 := Lib.hid (HUv.out.step h2); have k1 : u4.cell? ⟨kb, 1, none⟩ = some (.int .i64 1) := (HB.out.step h2).b.cell 1; have g1 : u4.cell? ⟨tb2, 1, none⟩ = some (.bool E1) := HU4.out.b.cell 1; clear h1 h2)
                      clear e0 e1 e2 e3 k1 g1
                      try go_wp2_with fail
                      go_meet
                      case rel => exact ⟨p2, G5, T0, T1, E0, E1, B, rfl, HZ4, HE2, HT4, HU4, HR2⟩
                    · obtain rfl : B = false := (HN.out (by omega)).1
                      obtain rfl : E1 = false := (HN.out (by omega)).2
                      have hr1 : (r : Int) > 0 := by omega
                      have hr2 : decide ((0 : Int) < (r : Int)) = true := decide_eq_true (by omega)
                      have hr3 : 0 < r := by omega
                      have hr4 : decide (0 < r) = true := decide_eq_true hr3
                      clear hr
                      go_wp2_with (go_at_call 20; (with_reducible refine (y_in HZv.out HE.out.1 hm6 1 oA on oc ol HON.out (HON.out ▸ HOV2.out.cap) HOV2.out.max (fun hh => HON.out ▸ HOV2.out.nil_ hh) (HOV2.out.rb.rf HZv.out.lo) r p2 HRE.out).mono ?_); rintro e u4 ⟨G5, rfl, h1, h2⟩; have HZ4 := Lib.hid h1; have HT4 := Lib.hid (HTv.out.step h2); have HU4 := Lib.hid (HUv.out.step h2); have k1 : u4.cell? ⟨kb, 1, none⟩ = some (.int .i64 1) := (HB.out.step h2).b.cell 1; have g1 : u4.cell? ⟨tb2, 1, none⟩ = some (.bool false) := HU4.out.b.cell 1; clear h1 h2)
                      clear e0 e1 e2 e3 k1 g1
                      try go_wp2_with fail
                      go_meet
                      case rel => exact ⟨p2, G5, T0, T1, E0, false, false, rfl, HZ4, HE2, HT4, HU4, HR2⟩
            case rest =>
              obtain ⟨p2, G5, T0, T1, E0, E1, B, rfl, HZ6, HE2, HT6, HU6, HR2⟩ := hcut
              have HOV := Lib.hid (show ovP p2 = (B || (T0 && T1)) by have h1 := HR2.out; unfold ovP; rw [← h1.1, ← h1.2.1, ← h1.2.2.1, Bool.and_comm])
              cases B with
              | true =>
                have hov := HOV.out
                have HOL := Lib.hid (show ovP p2 = true from hov)
                clear hov
                have n9 : (true != true) = false := rfl
                go_wp2_with (go_at_call 28; (with_reducible refine (y_over HZ6.out true HOL.out).mono ?_); rintro e y9 ⟨rfl, h1⟩; have HZ9 := Lib.hid (HZ6.out.on h1); have HT9 := Lib.hid (HT6.out.on h1); have HU9 := Lib.hid (HU6.out.on h1); clear h1; have d0 : y9.cell? ⟨tb1, 0, none⟩ = some (.bool T0) := HT9.out.b.cell 0; have d1 : y9.cell? ⟨tb1, 1, none⟩ = some (.bool T1) := HT9.out.b.cell 1)
                go_roundw
                case rel => exact ⟨i + 1, p2, G5, T0, T1, E0, E1, true, by omega, by first | rfl | trivial, by go_num, HZ9, HE2, HT9, HU9, HR2⟩
                case measure => simp [intOf] <;> omega
              | false =>
                cases T0 with
                | true =>
                  have hov := HOV.out
                  have HOL := Lib.hid (show ovP p2 = T1 from hov)
                  clear hov
                  have n9 : (T1 != T1) = false := by cases T1 <;> rfl
                  go_wp2_with (go_at_call 28; (with_reducible refine (y_over HZ6.out T1 HOL.out).mono ?_); rintro e y9 ⟨rfl, h1⟩; have HZ9 := Lib.hid (HZ6.out.on h1); have HT9 := Lib.hid (HT6.out.on h1); have HU9 := Lib.hid (HU6.out.on h1); clear h1; have d0 : y9.cell? ⟨tb1, 0, none⟩ = some (.bool true) := HT9.out.b.cell 0; have d1 : y9.cell? ⟨tb1, 1, none⟩ = some (.bool T1) := HT9.out.b.cell 1)
                  go_roundw
                  case rel => exact ⟨i + 1, p2, G5, true, T1, E0, E1, false, by omega, by first | rfl | trivial, by go_num, HZ9, HE2, HT9, HU9, HR2⟩
                  case measure => simp [intOf] <;> omega
                | false =>
                  have hov := HOV.out
                  have HOL := Lib.hid (show ovP p2 = false from hov)
                  clear hov
                  have n9 : (false != false) = false := rfl
                  go_wp2_with (go_at_call 28; (with_reducible refine (y_over HZ6.out false HOL.out).mono ?_); rintro e y9 ⟨rfl, h1⟩; have HZ9 := Lib.hid (HZ6.out.on h1); have HT9 := Lib.hid (HT6.out.on h1); have HU9 := Lib.hid (HU6.out.on h1); clear h1; have d0 : y9.cell? ⟨tb1, 0, none⟩ = some (.bool false) := HT9.out.b.cell 0; have d1 : y9.cell? ⟨tb1, 1, none⟩ = some (.bool T1) := HT9.out.b.cell 1)
                  go_roundw
                  case rel => exact ⟨i + 1, p2, G5, false, T1, E0, E1, false, by omega, by first | rfl | trivial, by go_num, HZ9, HE2, HT9, HU9, HR2⟩
                  case measure => simp [intOf] <;> omega
        · have z0 : (os != 0) = true := by simp [hs0]
          have z1 : (os != 1) = true := by simp [hs1]
          clear hs0 hs1
          go_wp2_with fail
          go_roundw
          case rel => exact ⟨i + 1, p, G, T0, T1, E0, E1, B, by omega, rfl, by go_num, HZv, Lib.hid ⟨HE.out.1, HE.out.2.of rfl rfl⟩, HTv, HUv, HR⟩
          case measure => simp [intOf] <;> omega
    · have hi2 : ¬ (i : Int) < (n : Int) := by omega
      go_wp2_with fail
      go_ret
      exact ⟨rfl, HZ.out.l⟩
end Go.Proofs.Ytpomeimjgbblmaa
