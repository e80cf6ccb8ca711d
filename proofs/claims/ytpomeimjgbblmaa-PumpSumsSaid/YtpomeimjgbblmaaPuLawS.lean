/- PumpSums: what went out, and waits, is what came in: the walk. (Written by gen_pusums.py.) -/
import Derived.Test.YtpomeimjgbblmaaPuQ
import Derived.Deep.CutRange
namespace Go.Proofs.Ytpomeimjgbblmaa
set_option linter.unusedVariables false
set_option maxRecDepth 100000
set_option linter.unusedSimpArgs false
open Go.RowKit

/-- Both sums, and both ends. -/
structure Su (M i : Nat) (p : Pu) (I0 I1 : Nat) (E0 E1 : Bool) : Prop where
  br : p.br = false
  a : p.a.mv + (p.a.q.length : Int) = (I0 : Int)
  b : p.b.mv + (p.b.q.length : Int) = (I1 : Int)
  ea : E0 = p.a.en
  eb : E1 = p.b.en
theorem Su.lt {M i : Nat} {p : Pu} {I0 I1 : Nat} {E0 E1 : Bool} (h : Su M i p I0 I1 E0 E1) (hg : Gu M p) (hf : Fi i p) (hM : M ≤ 255) (hi : i ≤ 1000) : I0 ≤ 100000000 ∧ I1 ≤ 100000000 := by
  have h1 := h.a
  have h2 := h.b
  have h3 := hg.a.le
  have h4 := hg.b.le
  have h5 := hf.a.2
  have h6 := hf.b.2
  constructor <;> omega

set_option maxRecDepth 100000 in
set_option maxHeartbeats 16000000 in
theorem walk_PumpSums (M : Nat) (A : Option Addr) (L : List OpP) (n c : Nat) (W : World) (hM : M ≤ 255) (h : InP W A L n c) :
    Calls Try.prog 9 #[.int .u8 (M : Int), .slice A n c] W fun e w' => e = .returned (.bool true) ∧ Below W.heap.size W w' := by
  have HI := Lib.hid h
  have hcapn : n ≤ 9223372036854775807 := by have h1 := h.cap; have h2 := h.max; unfold maxLen at h2; omega
  have hwM : IntKind.i64.wrap (M : Int) = (M : Int) := by rw [IntKind.wrap_i64]; omega
  have hm6 : M ≤ 65536 := by omega
  have HMM := Lib.hid (mostM_nat M hm6)
  clear h
  go_enter Try.func9, Try.ntmps9
  go_upto_region 2 with (go_at_call 10; (with_reducible refine (puhead_ok _).mono ?_); rintro e u1 ⟨rfl, hb⟩; have HB1 := Lib.hid hb; clear hb)
  go_upto_region 3 with (go_at_call 11; (with_reducible refine (y_new (M : Int) M HMM.out HB1.out).mono ?_); rintro e u2 ⟨G2, pb, rfl, h1, h2, h3⟩; have HZ2 := Lib.hid h1; clear h1 h2 h3)
  have HG := Lib.hid (pugreat_ok A L n c W u2 HI.out HZ2.out.l)
  go_wp2_with (go_at_call 13; (with_reducible refine HG.out.mono ?_); rintro e uu ⟨⟨v, rfl, hv⟩, hw⟩; rw [hw]; clear hw; cases v)
  all_goals try (go_ret; exact ⟨rfl, HZ2.out.l⟩)
  have h400 : n ≤ 400 := by simpa using hv
  clear HG hv
  obtain ⟨tb1, htb1⟩ : ∃ t, u2.heap.size = t := ⟨_, rfl⟩
  obtain ⟨u3, hu3⟩ : ∃ u3, u2.alloc (.cells #[.int .i64 0, .int .i64 0] 3) = u3 := ⟨_, rfl⟩
  have hb3 : Below u2.heap.size u2 u3 := by rw [← hu3]; exact (Below.refl _ _).alloc (Nat.le_refl _) _
  have HZ3 := Lib.hid (HZ2.out.on hb3)
  have HT3 := Lib.hid (show Bz u3 G2 tb1 3 #[.int .i64 ((0 : Nat) : Int), .int .i64 ((0 : Nat) : Int)] by rw [← hu3, ← htb1]; exact Bz.new HZ2.out.hi _ _)
  obtain ⟨tb2, htb2⟩ : ∃ t, tb1 + 1 = t := ⟨_, rfl⟩
  have hsz3 : u3.heap.size = tb2 := by rw [← hu3, World.size_alloc, htb1, htb2]
  have HTB := Lib.hid (show W.heap.size ≤ tb1 ∧ W.heap.size ≤ tb2 ∧ tb1 ≠ tb2 from ⟨by rw [← htb1]; exact HZ2.out.l.size, by rw [← hsz3]; exact HZ3.out.l.size, by have := HT3.out.b.lt; omega⟩)
  obtain ⟨u4, hu4⟩ : ∃ u4, u3.alloc (.cells #[.bool false, .bool false] 4) = u4 := ⟨_, rfl⟩
  have hb4 : Below u3.heap.size u3 u4 := by rw [← hu4]; exact (Below.refl _ _).alloc (Nat.le_refl _) _
  have HZ4 := Lib.hid (HZ3.out.on hb4)
  have HT4 := Lib.hid (HT3.out.on hb4)
  have HU4 := Lib.hid (show Bz u4 G2 tb2 4 #[.bool false, .bool false] by rw [← hu4, ← hsz3]; exact Bz.new HZ3.out.hi _ _)
  go_upto_region 7 with fail
  try rw [htb1]
  try rw [hu3]
  try rw [hsz3]
  try rw [htb2]
  try rw [hu4]
  clear hu3 hu4 hb3 hb4 htb1 htb2 hsz3
  go_wp2_with fail
  go_loopw [9] (fun v9 wr => ∃ (i : Nat) (p : Pu) (G : List Nat) (I0 I1 : Nat) (E0 E1 : Bool), i ≤ n ∧ v9 = .int .i64 (i : Int) ∧ Hid (Zu W wr G pb M p) ∧ Hid (Gu M p ∧ Fi i p) ∧ Hid (Bz wr G tb1 3 #[.int .i64 (I0 : Int), .int .i64 (I1 : Int)]) ∧ Hid (Bz wr G tb2 4 #[.bool E0, .bool E1]) ∧ Hid (Su M i p I0 I1 E0 E1)) (fun v9 _ => n - (intOf v9).toNat)
  case atStart => exact ⟨0, pu0, G2, 0, 0, false, false, by omega, rfl, HZ4, Lib.hid ⟨gu_new M, fi_new⟩, HT4, HU4, Lib.hid ⟨rfl, rfl, rfl, rfl, rfl⟩⟩
  case round =>
    obtain ⟨i, p, G, I0, I1, E0, E1, hi, rfl, HZ, HE, HT, HU, HR⟩ := hrel
    by_cases hi1 : i < n
    · have hi2 : (i : Int) < (n : Int) := by omega
      have HFU := Lib.hid (HE.out.2.fu (by omega))
      have HIB := Lib.hid (HR.out.lt HE.out.1 HE.out.2 hM (by omega))
      obtain ⟨bx, o, op, rfl, hx, hc⟩ := HI.out.at_ i hi1
      obtain ⟨⟨x0, x1, x2, x3⟩, hok⟩ := hc wr HZ.out.l
      obtain ⟨ow, os, oA, oc, ol, ox⟩ := op
      dsimp only at x0 x1 x2 x3
      obtain ⟨on, hon⟩ : ∃ on, ol.length = on := ⟨_, rfl⟩
      rw [hon] at x2
      have HON := Lib.hid hon
      have HOK := Lib.hid (fun u (hu : Below W.heap.size W u) => (hc u hu).2)
      clear hx hc hok hon
      go_upto_region 11 with fail
      obtain ⟨kb, hkb⟩ : ∃ kb, wr.heap.size = kb := ⟨_, rfl⟩
      obtain ⟨v, hv⟩ : ∃ v, wr.alloc (.cells #[.int .i64 ow, .int .i64 os, .slice oA on oc, .int .i64 ox] 31) = v := ⟨_, rfl⟩
      have hbv : Below wr.heap.size wr v := by rw [← hv]; exact (Below.refl _ _).alloc (Nat.le_refl _) _
      have HB := Lib.hid (show Bz v G kb 31 #[.int .i64 ow, .int .i64 os, .slice oA on oc, .int .i64 ox] by rw [← hv, ← hkb]; exact Bz.new HZ.out.hi _ _)
      have HKB := Lib.hid (show kb ≠ tb1 ∧ kb ≠ tb2 from ⟨by have := HT.out.b.lt; omega, by have := HU.out.b.lt; omega⟩)
      have HZv := Lib.hid (HZ.out.on hbv)
      have HTv := Lib.hid (HT.out.on hbv)
      have HUv := Lib.hid (HU.out.on hbv)
      try rw [hv]
      try rw [hkb]
      clear hv hkb hbv x0 x1 x2 x3
      have e0 : v.cell? ⟨kb, 0, none⟩ = some (.int .i64 ow) := HB.out.b.cell 0
      have e1 : v.cell? ⟨kb, 1, none⟩ = some (.int .i64 os) := HB.out.b.cell 1
      have e2 : v.cell? ⟨kb, 2, none⟩ = some (.slice oA on oc) := HB.out.b.cell 2
      have e3 : v.cell? ⟨kb, 3, none⟩ = some (.int .i64 ox) := HB.out.b.cell 3
      by_cases h4 : ow = 4
      · subst h4
        have z4 : ((4 : Int) == 4) = true := rfl
        by_cases hs0 : os = 0
        · subst hs0
          go_wp2_with fail
          go_roundw
          case rel => exact ⟨i + 1, p, G, I0, I1, E0, E1, by omega, by go_num, HZv, Lib.hid ⟨HE.out.1, HE.out.2.of rfl rfl⟩, HTv, HUv, Lib.hid ⟨HR.out.br, HR.out.a, HR.out.b, HR.out.ea, HR.out.eb⟩⟩
          case measure => simp [intOf] <;> omega
        · by_cases hs1 : os = 1
          · subst hs1
            go_wp2_with fail
            go_roundw
            case rel => exact ⟨i + 1, p, G, I0, I1, E0, E1, by omega, by go_num, HZv, Lib.hid ⟨HE.out.1, HE.out.2.of rfl rfl⟩, HTv, HUv, Lib.hid ⟨HR.out.br, HR.out.a, HR.out.b, HR.out.ea, HR.out.eb⟩⟩
            case measure => simp [intOf] <;> omega
          · have z0 : (os != 0) = true := by simp [hs0]
            have z1 : (os != 1) = true := by simp [hs1]
            clear hs0 hs1
            go_wp2_with fail
            go_roundw
            case rel => exact ⟨i + 1, p, G, I0, I1, E0, E1, by omega, by go_num, HZv, Lib.hid ⟨HE.out.1, HE.out.2.of rfl rfl⟩, HTv, HUv, Lib.hid ⟨HR.out.br, HR.out.a, HR.out.b, HR.out.ea, HR.out.eb⟩⟩
            case measure => simp [intOf] <;> omega
      have h4b : (ow == 4) = false := by simp [h4]
      clear h4
      by_cases hs0 : os = 0
      · subst hs0
        as_aux_lemma =>
          go_upto_if 54 with fail
          go_cut [9] from 29 to 137 (fun v9 wx => ∃ (p2 : Pu) (G5 : List Nat) (J0 J1 : Nat) (F0 F1 : Bool), v9 = .int .i64 (i : Int) ∧ Hid (Zu W wx G5 pb M p2) ∧ Hid (Gu M p2 ∧ Fi (i + 1) p2) ∧ Hid (Bz wx G5 tb1 3 #[.int .i64 (J0 : Int), .int .i64 (J1 : Int)]) ∧ Hid (Bz wx G5 tb2 4 #[.bool F0, .bool F1]) ∧ Hid (Su M (i + 1) p2 J0 J1 F0 F1))
          case first =>
            by_cases h2 : ow = 2
            · subst h2
              have h2c : ((2 : Int) == 2) = true := rfl
              obtain ⟨⟨⟨l, b⟩, p2⟩, hR⟩ : ∃ R, outP p 0 ox = R := ⟨_, rfl⟩
              have HRE := Lib.hid hR
              have HE2 := Lib.hid (show Gu M p2 ∧ Fi (i + 1) p2 from ⟨gu_out2 HE.out.1 hR, fi_out HE.out.2 HE.out.1 hm6 hR⟩)
              have HS2 := Lib.hid (show Su M (i + 1) p2 I0 I1 E0 E1 by
                have ho := out_at (k := false) rfl HE.out.1 hR
                have hr := HR.out
                have e1 : p2.a = p.a := ho.same
                have e2 : p2.b.mv = p.b.mv + (l.length : Int) := ho.mv
                have e3 : p.b.q = l ++ p2.b.q := ho.split hr.br
                have e4 : p2.b.en = p.b.en := ho.en
                have h5 := hr.b
                rw [e3, List.length_append] at h5
                exact ⟨ho.br.trans hr.br, by rw [e1]; exact hr.a, by rw [e2]; omega, by rw [e1]; exact hr.ea, hr.eb.trans e4.symm⟩)
              clear hR
              go_wp2_with (go_at_call 14; (with_reducible refine (y_out HZv.out HE.out.1 hm6 HFU.out 0 ox _ l b p2 HRE.out rfl).mono ?_); rintro e u6 ⟨G5, A4, c4, rfl, h0, h1, h2⟩; have HZ6 := Lib.hid h1; have HT6 := Lib.hid (HTv.out.step h2); have HU6 := Lib.hid (HUv.out.step h2); clear h0 h1 h2)
              clear e0 e1 e2 e3
              go_meet
              case rel => exact ⟨p2, G5, I0, I1, E0, E1, rfl, HZ6, HE2, HT6, HU6, HS2⟩
            · have h2b : (ow == 2) = false := by simp [h2]
              clear h2
              by_cases h3 : ow = 3
              · subst h3
                obtain ⟨⟨r, p2⟩, hR⟩ : ∃ R, endP p 0 = R := ⟨_, rfl⟩
                have HRE := Lib.hid hR
                have HE2 := Lib.hid (show Gu M p2 ∧ Fi (i + 1) p2 from ⟨gu_end2 HE.out.1 hR, fi_end HE.out.2 hR⟩)
                have HS2 := Lib.hid (show Su M (i + 1) p2 I0 I1 true E1 by
                  have ho := end_at (k := false) rfl hR
                  have hr := HR.out
                  have e1 : p2.b = p.b := ho.same
                  have e2 : p2.a.mv = p.a.mv := ho.mv
                  have e3 : p2.a.q = p.a.q := ho.q
                  have e4 : true = p2.a.en := by
                    have h6 : p2.a.en = (p.a.en || r) := ho.en
                    have h7 : r = (!p.br && !p.a.en) := ho.is_
                    rw [h6, h7, hr.br]
                    cases p.a.en <;> rfl
                  exact ⟨ho.br.trans hr.br, by rw [e2, e3]; exact hr.a, by rw [e1]; exact hr.b, e4, by rw [e1]; exact hr.eb⟩)
                clear hR
                go_upto_region 16 with (go_at_call 16; (with_reducible refine (y_end HZv.out 0 r p2 HRE.out).mono ?_); rintro e u5 ⟨G5, rfl, h1, h2⟩; have HZ5 := Lib.hid h1; have HB5 := Lib.hid (HB.out.step h2); have HT5 := Lib.hid (HTv.out.step h2); have HU5 := Lib.hid (HUv.out.step h2); clear h1 h2)
                clear e0 e1 e2 e3
                have e1 : u5.cell? ⟨kb, 1, none⟩ = some (.int .i64 0) := HB5.out.b.cell 1
                have g0 : u5.cell? ⟨tb2, 0, none⟩ = some (.bool E0) := HU5.out.b.cell 0
                have fg0 := HU5.out.b.frozen 0
                go_wp2_with fail
                clear e1 g0 fg0
                obtain ⟨u6, hu6⟩ : ∃ w, u5.setCell ⟨tb2, 0, none⟩ (.bool true) = w := ⟨_, rfl⟩
                try rw [hu6]
                have kk : Ke [tb2] u5 u6 := by rw [← hu6]; exact (Ke.refl [tb2] u5).set (p := ⟨tb2, 0, none⟩) (by simp) _
                have HZ6 := Lib.hid (HZ5.out.ke kk (fun y hy hx => by rw [List.mem_singleton.1 hx] at hy; exact HU5.out.n hy) (HZ5.out.l.trans (kk.below HZ5.out.l.size (fun x hx => by rw [List.mem_singleton.1 hx]; exact HTB.out.2.1))))
                have HU6 := Lib.hid (show Bz u6 G5 tb2 4 #[.bool true, .bool E1] from ⟨by rw [← hu6]; exact HU5.out.b.set 0 _, HU5.out.n⟩)
                have HT6 := Lib.hid (show Bz u6 G5 tb1 3 #[.int .i64 (I0 : Int), .int .i64 (I1 : Int)] from ⟨HT5.out.b.ke kk (by simpa using HTB.out.2.2), HT5.out.n⟩)
                clear hu6 kk
                obtain ⟨F0, hF⟩ : ∃ F, true = F := ⟨_, rfl⟩
                rw [hF] at HS2 HU6
                clear hF
                go_meet
                case rel => exact ⟨p2, G5, I0, I1, F0, E1, rfl, HZ6, HE2, HT6, HU6, HS2⟩
              · have h3b : (ow == 3) = false := by simp [h3]
                clear h3
                obtain ⟨⟨r, p2⟩, hR⟩ : ∃ R, inP M p 0 ol = R := ⟨_, rfl⟩
                have HRE := Lib.hid hR
                have HE2 := Lib.hid (show Gu M p2 ∧ Fi (i + 1) p2 from ⟨gu_in2 HE.out.1 hR, fi_in HE.out.2 hR⟩)
                obtain ⟨J0, hJ⟩ : ∃ x, I0 + r = x := ⟨_, rfl⟩
                have HS2 := Lib.hid (show Su M (i + 1) p2 J0 I1 E0 E1 by
                  have ho := in_at (k := false) rfl hR
                  have hr := HR.out
                  have e1 : p2.b = p.b := ho.same
                  have e2 : p2.a.mv = p.a.mv := ho.mv
                  have e3 : p2.a.q = p.a.q ++ ol.take r := ho.q
                  have e4 : p2.a.en = p.a.en := ho.en
                  have h8 := ho.le
                  have h5 := hr.a
                  have h9 : p2.a.mv + (p2.a.q.length : Int) = (J0 : Int) := by rw [e2, e3, List.length_append, List.length_take, Nat.min_eq_left h8]; omega
                  exact ⟨ho.br.trans hr.br, h9, by rw [e1]; exact hr.b, hr.ea.trans e4.symm, by rw [e1]; exact hr.eb⟩)
                have hr255 : r ≤ 100000000 := by have h1 := (HS2.out.lt HE2.out.1 HE2.out.2 hM (by omega)); have := h1.1; omega
                have hIk : I0 ≤ 100000000 := HIB.out.1
                have hwI : IntKind.i64.wrap ((I0 : Int) + (r : Int)) = (J0 : Int) := by rw [IntKind.wrap_i64]; omega
                clear hR hJ hIk hr255
                go_upto_region 17 with fail
                have HVD := Lib.hid ((Below.refl v.heap.size v).drew)
                have HOW := Lib.hid (HOK.out v.drew (HZv.out.on HVD.out).l)
                have HBd := Lib.hid (show Bz v.drew G kb 31 #[.int .i64 ow, .int .i64 0, .slice oA on oc, .int .i64 ox] from ⟨HB.out.b.drew, HB.out.n⟩)
                have HTd := Lib.hid (show Bz v.drew G tb1 3 #[.int .i64 (I0 : Int), .int .i64 (I1 : Int)] from ⟨HTv.out.b.drew, HTv.out.n⟩)
                have HUd := Lib.hid (show Bz v.drew G tb2 4 #[.bool E0, .bool E1] from ⟨HUv.out.b.drew, HUv.out.n⟩)
                clear e0 e1 e2 e3
                have k0 : v.drew.cell? ⟨tb1, 0, none⟩ = some (.int .i64 (I0 : Int)) := HTd.out.b.cell 0
                try simp only [List.cons_append, List.nil_append]
                refine wp_region_held_drew (S := fun wz => Bk wz kb 31 #[.int .i64 ow, .int .i64 0, .slice oA on oc, .int .i64 ox]) (by kernel_rfl) (HBd.out.b) (fun hHeld => ?_)
                refine take_at (some 72) (i := 0) (v := ?_) rfl rfl (by kernel_rfl) (by kernel_rfl) (by kernel_rfl) (fun _ _ _ h => h) (Or.inl ⟨by kernel_rfl, ?_⟩) hHeld ?_
                rotate_left
                · intro wz hSw; go_simp; try (with_reducible rfl)
                try simp only [Act.put, List.setIfInBounds_toArray, List.set_cons_zero, List.set_cons_succ, List.getElem_toArray, List.getElem_cons_succ, List.getElem_cons_zero]
                refine take_at (some 73) (i := 1) (v := ?_) rfl rfl (by kernel_rfl) (by kernel_rfl) (by kernel_rfl) (fun _ _ _ h => h) (Or.inl ⟨by kernel_rfl, ?_⟩) hHeld ?_
                rotate_left
                · intro wz hSw; have e1 := hSw.cell 1; go_simp; try (with_reducible rfl)
                try simp only [Act.put, List.setIfInBounds_toArray, List.set_cons_zero, List.set_cons_succ, List.getElem_toArray, List.getElem_cons_succ, List.getElem_cons_zero]
                refine take_at (some 74) (i := 2) (v := ?_) rfl rfl (by kernel_rfl) (by kernel_rfl) (by kernel_rfl) (fun _ _ _ h => h) (Or.inl ⟨by kernel_rfl, ?_⟩) hHeld ?_
                rotate_left
                · intro wz hSw; have e1 := hSw.cell 1; go_simp; try (with_reducible rfl)
                try simp only [Act.put, List.setIfInBounds_toArray, List.set_cons_zero, List.set_cons_succ, List.getElem_toArray, List.getElem_cons_succ, List.getElem_cons_zero]
                refine take_at (some 75) (i := 3) (v := ?_) rfl rfl (by kernel_rfl) (by kernel_rfl) (by kernel_rfl) (fun _ _ _ h => h) (Or.inl ⟨by kernel_rfl, ?_⟩) hHeld ?_
                rotate_left
                · intro wz hSw; go_simp; try (with_reducible rfl)
                try simp only [Act.put, List.setIfInBounds_toArray, List.set_cons_zero, List.set_cons_succ, List.getElem_toArray, List.getElem_cons_succ, List.getElem_cons_zero]
                refine take_at (some 76) (i := 4) (v := ?_) rfl rfl (by kernel_rfl) (by kernel_rfl) (by kernel_rfl) (fun _ _ _ h => h) (Or.inl ⟨by kernel_rfl, ?_⟩) hHeld ?_
                rotate_left
                · intro wz hSw; have e1 := hSw.cell 1; go_simp; try (with_reducible rfl)
                try simp only [Act.put, List.setIfInBounds_toArray, List.set_cons_zero, List.set_cons_succ, List.getElem_toArray, List.getElem_cons_succ, List.getElem_cons_zero]
                refine take_at (some 77) (i := 5) (v := ?_) rfl rfl (by kernel_rfl) (by kernel_rfl) (by kernel_rfl) (fun _ _ _ h => h) (Or.inl ⟨by kernel_rfl, ?_⟩) hHeld ?_
                rotate_left
                · intro wz hSw; have e1 := hSw.cell 1; go_simp; try (with_reducible rfl)
                try simp only [Act.put, List.setIfInBounds_toArray, List.set_cons_zero, List.set_cons_succ, List.getElem_toArray, List.getElem_cons_succ, List.getElem_cons_zero]
                refine take_at (some 78) (i := 6) (v := ?_) rfl rfl (by kernel_rfl) (by kernel_rfl) (by kernel_rfl) (fun _ _ _ h => h) (Or.inl ⟨by kernel_rfl, ?_⟩) hHeld ?_
                rotate_left
                · intro wz hSw; go_simp; try (with_reducible rfl)
                try simp only [Act.put, List.setIfInBounds_toArray, List.set_cons_zero, List.set_cons_succ, List.getElem_toArray, List.getElem_cons_succ, List.getElem_cons_zero]
                refine take_at (some 80) (i := 8) (v := ?_) rfl rfl (by kernel_rfl) (by kernel_rfl) (by kernel_rfl) (fun _ _ _ h => h) (Or.inl ⟨by kernel_rfl, ?_⟩) hHeld ?_
                rotate_left
                · intro wz hSw; go_simp; try (with_reducible rfl)
                try simp only [Act.put, List.setIfInBounds_toArray, List.set_cons_zero, List.set_cons_succ, List.getElem_toArray, List.getElem_cons_succ, List.getElem_cons_zero]
                refine take_at (some 81) (i := 9) (v := ?_) rfl rfl (by kernel_rfl) (by kernel_rfl) (by kernel_rfl) (fun _ _ _ h => h) (Or.inl ⟨by kernel_rfl, ?_⟩) hHeld ?_
                rotate_left
                · intro wz hSw; have e1 := hSw.cell 1; go_simp; try (with_reducible rfl)
                try simp only [Act.put, List.setIfInBounds_toArray, List.set_cons_zero, List.set_cons_succ, List.getElem_toArray, List.getElem_cons_succ, List.getElem_cons_zero]
                refine take_at (some 82) (i := 10) (v := ?_) rfl rfl (by kernel_rfl) (by kernel_rfl) (by kernel_rfl) (fun _ _ _ h => h) (Or.inl ⟨by kernel_rfl, ?_⟩) hHeld ?_
                rotate_left
                · intro wz hSw; have e1 := hSw.cell 1; go_simp; try (with_reducible rfl)
                try simp only [Act.put, List.setIfInBounds_toArray, List.set_cons_zero, List.set_cons_succ, List.getElem_toArray, List.getElem_cons_succ, List.getElem_cons_zero]
                refine take_at (some 83) (i := 11) (v := ?_) rfl rfl (by kernel_rfl) (by kernel_rfl) (by kernel_rfl) (fun _ _ _ h => h) (Or.inl ⟨by kernel_rfl, ?_⟩) hHeld ?_
                rotate_left
                · intro wz hSw; have e2 := hSw.cell 2; go_simp; try (with_reducible rfl)
                try simp only [Act.put, List.setIfInBounds_toArray, List.set_cons_zero, List.set_cons_succ, List.getElem_toArray, List.getElem_cons_succ, List.getElem_cons_zero]
                refine take_at (some 84) (i := 12) (v := ?_) rfl rfl (by kernel_rfl) (by kernel_rfl) (by kernel_rfl) (fun _ _ _ h => h) (Or.inl ⟨by kernel_rfl, ?_⟩) hHeld ?_
                rotate_left
                · intro wz hSw; have e2 := hSw.cell 2; go_simp; try (with_reducible rfl)
                try simp only [Act.put, List.setIfInBounds_toArray, List.set_cons_zero, List.set_cons_succ, List.getElem_toArray, List.getElem_cons_succ, List.getElem_cons_zero]
                refine wpAnyH_ready (rs := [7, 13]) (by kernel_rfl) (by simp) (AllReadyH.cons rfl (fun K hK => ?_) (AllReadyH.cons rfl (fun K hK => ?_) AllReadyH.nil))
                · rw [if_pos (by kernel_rfl)]
                  go_simp
                  refine hK.out _ _ (HBd.out.b) (fun hHeld => ?_)
                  try simp only [Act.put, List.setIfInBounds_toArray, List.set_cons_zero, List.set_cons_succ, List.getElem_toArray, List.getElem_cons_succ, List.getElem_cons_zero]
                  refine wpAnyH_ready (rs := [13]) (by kernel_rfl) (by simp) (AllReadyH.cons rfl (fun K hK => ?_) AllReadyH.nil)
                  rw [if_pos (by kernel_rfl)]
                  go_simp
                  refine (y_in (HZv.out.on HVD.out) HE.out.1 hm6 0 oA on oc ol HON.out (HON.out ▸ HOW.out.cap) HOW.out.max (fun hh => HON.out ▸ HOW.out.nil_ hh) (HOW.out.rb.rf HZv.out.lo) r p2 HRE.out).mono ?_
                  rintro e u5 ⟨G5, rfl, h1, h2⟩
                  try dsimp only
                  have HZ5 := Lib.hid h1
                  have HT5 := Lib.hid (HTd.out.step h2)
                  have HU5 := Lib.hid (HUd.out.step h2)
                  have HB5 := Lib.hid (HBd.out.step h2)
                  have k5 : u5.cell? ⟨tb1, 0, none⟩ = some (.int .i64 (I0 : Int)) := HT5.out.b.cell 0
                  have f5 := HT5.out.b.frozen 0
                  clear h1 h2
                  refine hK.out _ _ HB5.out.b (fun hHeld => ?_)
                  try simp only [Act.put, List.setIfInBounds_toArray, List.set_cons_zero, List.set_cons_succ, List.getElem_toArray, List.getElem_cons_succ, List.getElem_cons_zero]
                  refine take_at (some 86) (i := 14) (v := ?_) rfl rfl (by kernel_rfl) (by kernel_rfl) (by kernel_rfl) (fun _ _ _ h => h) (Or.inl ⟨by kernel_rfl, ?_⟩) hHeld ?_
                  rotate_left
                  · intro wz hSw; go_simp; try (with_reducible rfl)
                  try simp only [Act.put, List.setIfInBounds_toArray, List.set_cons_zero, List.set_cons_succ, List.getElem_toArray, List.getElem_cons_succ, List.getElem_cons_zero]
                  refine take_at (some 87) (i := 15) (v := ?_) rfl rfl (by kernel_rfl) (by kernel_rfl) (by kernel_rfl) (fun _ _ _ h => h) (Or.inl ⟨by kernel_rfl, ?_⟩) hHeld ?_
                  rotate_left
                  · intro wz hSw; go_simp; try (with_reducible rfl)
                  try simp only [Act.put, List.setIfInBounds_toArray, List.set_cons_zero, List.set_cons_succ, List.getElem_toArray, List.getElem_cons_succ, List.getElem_cons_zero]
                  refine wpAnyH_ready (rs := [16]) (by kernel_rfl) (by simp) (AllReadyH.cons rfl (fun K hK => ?_) AllReadyH.nil)
                  rw [if_pos (by kernel_rfl)]
                  go_simp
                  refine hK.out _ _ (HB5.out.b.ke ((Ke.refl [tb1] u5).set (p := ⟨tb1, 0, none⟩) (by simp) _) (by simpa using HKB.out.1)) (fun hHeld => ?_)
                  try simp only [Act.put, List.setIfInBounds_toArray, List.set_cons_zero, List.set_cons_succ, List.getElem_toArray, List.getElem_cons_succ, List.getElem_cons_zero]
                  refine wpAnyH_done (by kernel_rfl) ?_ _
                  clear hHeld k5 f5 k0
                  go_wp2_with fail
                  obtain ⟨u6, hu6⟩ : ∃ w, u5.setCell ⟨tb1, 0, none⟩ (.int .i64 (J0 : Int)) = w := ⟨_, rfl⟩
                  try rw [hu6]
                  have kk : Ke [tb1] u5 u6 := by rw [← hu6]; exact (Ke.refl [tb1] u5).set (p := ⟨tb1, 0, none⟩) (by simp) _
                  have HZ6 := Lib.hid (HZ5.out.ke kk (fun y hy hx => by rw [List.mem_singleton.1 hx] at hy; exact HT5.out.n hy) (HZ5.out.l.trans (kk.below HZ5.out.l.size (fun x hx => by rw [List.mem_singleton.1 hx]; exact HTB.out.1))))
                  have HT6 := Lib.hid (show Bz u6 G5 tb1 3 #[.int .i64 (J0 : Int), .int .i64 (I1 : Int)] from ⟨by rw [← hu6]; exact HT5.out.b.set 0 _, HT5.out.n⟩)
                  have HU6 := Lib.hid (show Bz u6 G5 tb2 4 #[.bool E0, .bool E1] from ⟨HU5.out.b.ke kk (by simpa using HTB.out.2.2.symm), HU5.out.n⟩)
                  clear hu6 kk
                  go_meet
                  case rel => exact ⟨p2, G5, J0, I1, E0, E1, rfl, HZ6, HE2, HT6, HU6, HS2⟩
                · rw [if_pos (by kernel_rfl)]
                  go_simp
                  refine (y_in (HZv.out.on HVD.out) HE.out.1 hm6 0 oA on oc ol HON.out (HON.out ▸ HOW.out.cap) HOW.out.max (fun hh => HON.out ▸ HOW.out.nil_ hh) (HOW.out.rb.rf HZv.out.lo) r p2 HRE.out).mono ?_
                  rintro e u5 ⟨G5, rfl, h1, h2⟩
                  try dsimp only
                  have HZ5 := Lib.hid h1
                  have HT5 := Lib.hid (HTd.out.step h2)
                  have HU5 := Lib.hid (HUd.out.step h2)
                  have HB5 := Lib.hid (HBd.out.step h2)
                  have k5 : u5.cell? ⟨tb1, 0, none⟩ = some (.int .i64 (I0 : Int)) := HT5.out.b.cell 0
                  have f5 := HT5.out.b.frozen 0
                  clear h1 h2
                  refine hK.out _ _ HB5.out.b (fun hHeld => ?_)
                  try simp only [Act.put, List.setIfInBounds_toArray, List.set_cons_zero, List.set_cons_succ, List.getElem_toArray, List.getElem_cons_succ, List.getElem_cons_zero]
                  refine wpAnyH_ready (rs := [7]) (by kernel_rfl) (by simp) (AllReadyH.cons rfl (fun K hK => ?_) AllReadyH.nil)
                  rw [if_pos (by kernel_rfl)]
                  go_simp
                  refine hK.out _ _ (HB5.out.b) (fun hHeld => ?_)
                  try simp only [Act.put, List.setIfInBounds_toArray, List.set_cons_zero, List.set_cons_succ, List.getElem_toArray, List.getElem_cons_succ, List.getElem_cons_zero]
                  refine take_at (some 86) (i := 14) (v := ?_) rfl rfl (by kernel_rfl) (by kernel_rfl) (by kernel_rfl) (fun _ _ _ h => h) (Or.inl ⟨by kernel_rfl, ?_⟩) hHeld ?_
                  rotate_left
                  · intro wz hSw; go_simp; try (with_reducible rfl)
                  try simp only [Act.put, List.setIfInBounds_toArray, List.set_cons_zero, List.set_cons_succ, List.getElem_toArray, List.getElem_cons_succ, List.getElem_cons_zero]
                  refine take_at (some 87) (i := 15) (v := ?_) rfl rfl (by kernel_rfl) (by kernel_rfl) (by kernel_rfl) (fun _ _ _ h => h) (Or.inl ⟨by kernel_rfl, ?_⟩) hHeld ?_
                  rotate_left
                  · intro wz hSw; go_simp; try (with_reducible rfl)
                  try simp only [Act.put, List.setIfInBounds_toArray, List.set_cons_zero, List.set_cons_succ, List.getElem_toArray, List.getElem_cons_succ, List.getElem_cons_zero]
                  refine wpAnyH_ready (rs := [16]) (by kernel_rfl) (by simp) (AllReadyH.cons rfl (fun K hK => ?_) AllReadyH.nil)
                  rw [if_pos (by kernel_rfl)]
                  go_simp
                  refine hK.out _ _ (HB5.out.b.ke ((Ke.refl [tb1] u5).set (p := ⟨tb1, 0, none⟩) (by simp) _) (by simpa using HKB.out.1)) (fun hHeld => ?_)
                  try simp only [Act.put, List.setIfInBounds_toArray, List.set_cons_zero, List.set_cons_succ, List.getElem_toArray, List.getElem_cons_succ, List.getElem_cons_zero]
                  refine wpAnyH_done (by kernel_rfl) ?_ _
                  clear hHeld k5 f5 k0
                  go_wp2_with fail
                  obtain ⟨u6, hu6⟩ : ∃ w, u5.setCell ⟨tb1, 0, none⟩ (.int .i64 (J0 : Int)) = w := ⟨_, rfl⟩
                  try rw [hu6]
                  have kk : Ke [tb1] u5 u6 := by rw [← hu6]; exact (Ke.refl [tb1] u5).set (p := ⟨tb1, 0, none⟩) (by simp) _
                  have HZ6 := Lib.hid (HZ5.out.ke kk (fun y hy hx => by rw [List.mem_singleton.1 hx] at hy; exact HT5.out.n hy) (HZ5.out.l.trans (kk.below HZ5.out.l.size (fun x hx => by rw [List.mem_singleton.1 hx]; exact HTB.out.1))))
                  have HT6 := Lib.hid (show Bz u6 G5 tb1 3 #[.int .i64 (J0 : Int), .int .i64 (I1 : Int)] from ⟨by rw [← hu6]; exact HT5.out.b.set 0 _, HT5.out.n⟩)
                  have HU6 := Lib.hid (show Bz u6 G5 tb2 4 #[.bool E0, .bool E1] from ⟨HU5.out.b.ke kk (by simpa using HTB.out.2.2.symm), HU5.out.n⟩)
                  clear hu6 kk
                  go_meet
                  case rel => exact ⟨p2, G5, J0, I1, E0, E1, rfl, HZ6, HE2, HT6, HU6, HS2⟩
          case rest =>
            obtain ⟨p2, G5, J0, J1, F0, F1, rfl, HZ6, HE2, HT6, HU6, HS2⟩ := hcut
            have HIB2 := Lib.hid (HS2.out.lt HE2.out.1 HE2.out.2 hM (by omega))
            go_wp2_with fail
            go_loopw [11] (fun v11 w9 => ∃ k : Nat, k ≤ 2 ∧ v11 = .int .i64 (k : Int) ∧ Hid (Zu W w9 G5 pb M p2) ∧ Hid (Bz w9 G5 tb1 3 #[.int .i64 (J0 : Int), .int .i64 (J1 : Int)]) ∧ Hid (Bz w9 G5 tb2 4 #[.bool F0, .bool F1])) (fun v11 _ => 2 - (intOf v11).toNat)
            case atStart => exact ⟨0, by omega, rfl, HZ6, HT6, HU6⟩
            case round =>
              obtain ⟨k, hk, rfl, HZ9, HT9, HU9⟩ := hrel
              rcases (show k = 0 ∨ k = 1 ∨ k = 2 by omega) with rfl | rfl | rfl
              · obtain ⟨a1, ha1⟩ : ∃ a, p2.a.mv = a := ⟨_, rfl⟩
                obtain ⟨a2, ha2⟩ : ∃ a, p2.a.q.length = a := ⟨_, rfl⟩
                have hsum := HS2.out.a
                rw [ha1, ha2] at hsum
                have hle := (HE2.out.1.a).le
                rw [ha2] at hle
                have hJ : J0 ≤ 100000000 := HIB2.out.1
                have hwJ : IntKind.i64.wrap (a1 + (a2 : Int)) = (J0 : Int) := by rw [hsum, IntKind.wrap_i64]; omega
                obtain ⟨a3, ha3⟩ : ∃ a, M - a2 = a := ⟨_, rfl⟩
                have hwR : IntKind.i64.wrap ((M : Int) - (a2 : Int)) = (a3 : Int) := by rw [IntKind.wrap_i64]; omega
                have HA := Lib.hid (show mvP p2 1 = a1 ∧ wtP p2 1 = a2 ∧ (F0 = false → rmP M p2 0 = a3) ∧ (F0 = true → rmP M p2 0 = 0) from ⟨ha1, ha2, fun hh => ?_, fun hh => ?_⟩)
                rotate_left
                · have h1 := HS2.out.ea
                  rw [hh] at h1
                  show (if (p2.br || p2.a.en) = true then 0 else M - p2.a.q.length) = a3
                  rw [HS2.out.br, ← h1, ha2, ha3]
                  rfl
                · have h1 := HS2.out.ea
                  rw [hh] at h1
                  show (if (p2.br || p2.a.en) = true then 0 else M - p2.a.q.length) = 0
                  rw [HS2.out.br, ← h1]
                  rfl
                have n1 : ((J0 : Int) != (J0 : Int)) = false := by simp
                have n3 : ((a3 : Int) != (a3 : Int)) = false := by simp
                clear hsum hle hJ ha1 ha2 ha3
                have hw0 : IntKind.i64.wrap (1 - 0) = 1 := by decide
                have hw1 : IntKind.i64.wrap (1 - 1) = 0 := by decide
                have hw2 : IntKind.i64.wrap 1 = 1 := by decide
                have hw3 : IntKind.i64.wrap 0 = 0 := by decide
                have hk4 : (0 : Int) < 2 := by decide
                cases F0 with
                | false =>
                  go_upto_region 21 with fail
                  try simp only [List.cons_append, List.nil_append]
                  refine wp_region_held_drew (S := fun wz => Below wr.heap.size wr wz) (by kernel_rfl) ((Below.refl _ _).drew) (fun hHeld => ?_)
                  refine take_at (some 92) (i := 0) (v := ?_) rfl rfl (by kernel_rfl) (by kernel_rfl) (by kernel_rfl) (fun _ _ _ h => h) (Or.inl ⟨by kernel_rfl, ?_⟩) hHeld ?_
                  rotate_left
                  · intro wz hSw; go_simp; try (with_reducible rfl)
                  try simp only [Act.put, List.setIfInBounds_toArray, List.set_cons_zero, List.set_cons_succ, List.getElem_toArray, List.getElem_cons_succ, List.getElem_cons_zero]
                  refine take_at (some 93) (i := 1) (v := ?_) rfl rfl (by kernel_rfl) (by kernel_rfl) (by kernel_rfl) (fun _ _ _ h => h) (Or.inl ⟨by kernel_rfl, ?_⟩) hHeld ?_
                  rotate_left
                  · intro wz hSw; go_simp; try (with_reducible rfl)
                  try simp only [Act.put, List.setIfInBounds_toArray, List.set_cons_zero, List.set_cons_succ, List.getElem_toArray, List.getElem_cons_succ, List.getElem_cons_zero]
                  refine take_at (some 94) (i := 2) (v := ?_) rfl rfl (by kernel_rfl) (by kernel_rfl) (by kernel_rfl) (fun _ _ _ h => h) (Or.inl ⟨by kernel_rfl, ?_⟩) hHeld ?_
                  rotate_left
                  · intro wz hSw; go_simp; try (with_reducible rfl)
                  try simp only [Act.put, List.setIfInBounds_toArray, List.set_cons_zero, List.set_cons_succ, List.getElem_toArray, List.getElem_cons_succ, List.getElem_cons_zero]
                  refine take_at (some 96) (i := 4) (v := ?_) rfl rfl (by kernel_rfl) (by kernel_rfl) (by kernel_rfl) (fun _ _ _ h => h) (Or.inl ⟨by kernel_rfl, ?_⟩) hHeld ?_
                  rotate_left
                  · intro wz hSw; go_simp; try (with_reducible rfl)
                  try simp only [Act.put, List.setIfInBounds_toArray, List.set_cons_zero, List.set_cons_succ, List.getElem_toArray, List.getElem_cons_succ, List.getElem_cons_zero]
                  refine take_at (some 97) (i := 5) (v := ?_) rfl rfl (by kernel_rfl) (by kernel_rfl) (by kernel_rfl) (fun _ _ _ h => h) (Or.inl ⟨by kernel_rfl, ?_⟩) hHeld ?_
                  rotate_left
                  · intro wz hSw; go_simp; try (with_reducible rfl)
                  try simp only [Act.put, List.setIfInBounds_toArray, List.set_cons_zero, List.set_cons_succ, List.getElem_toArray, List.getElem_cons_succ, List.getElem_cons_zero]
                  refine take_at (some 98) (i := 6) (v := ?_) rfl rfl (by kernel_rfl) (by kernel_rfl) (by kernel_rfl) (fun _ _ _ h => h) (Or.inl ⟨by kernel_rfl, ?_⟩) hHeld ?_
                  rotate_left
                  · intro wz hSw; go_simp; try (with_reducible rfl)
                  try simp only [Act.put, List.setIfInBounds_toArray, List.set_cons_zero, List.set_cons_succ, List.getElem_toArray, List.getElem_cons_succ, List.getElem_cons_zero]
                  refine take_at (some 101) (i := 9) (v := ?_) rfl rfl (by kernel_rfl) (by kernel_rfl) (by kernel_rfl) (fun _ _ _ h => h) (Or.inl ⟨by kernel_rfl, ?_⟩) hHeld ?_
                  rotate_left
                  · intro wz hSw; go_simp; try (with_reducible rfl)
                  try simp only [Act.put, List.setIfInBounds_toArray, List.set_cons_zero, List.set_cons_succ, List.getElem_toArray, List.getElem_cons_succ, List.getElem_cons_zero]
                  refine take_at (some 102) (i := 10) (v := ?_) rfl rfl (by kernel_rfl) (by kernel_rfl) (by kernel_rfl) (fun _ _ _ h => h) (Or.inl ⟨by kernel_rfl, ?_⟩) hHeld ?_
                  rotate_left
                  · intro wz hSw; go_simp; try (with_reducible rfl)
                  try simp only [Act.put, List.setIfInBounds_toArray, List.set_cons_zero, List.set_cons_succ, List.getElem_toArray, List.getElem_cons_succ, List.getElem_cons_zero]
                  refine take_at (some 103) (i := 11) (v := ?_) rfl rfl (by kernel_rfl) (by kernel_rfl) (by kernel_rfl) (fun _ _ _ h => h) (Or.inl ⟨by kernel_rfl, ?_⟩) hHeld ?_
                  rotate_left
                  · intro wz hSw; go_simp; try (with_reducible rfl)
                  try simp only [Act.put, List.setIfInBounds_toArray, List.set_cons_zero, List.set_cons_succ, List.getElem_toArray, List.getElem_cons_succ, List.getElem_cons_zero]
                  refine take_at (some 104) (i := 12) (v := ?_) rfl rfl (by kernel_rfl) (by kernel_rfl) (by kernel_rfl) (fun _ _ _ h => h) (Or.inl ⟨by kernel_rfl, ?_⟩) hHeld ?_
                  rotate_left
                  · intro wz hSw; have d9 : wz.cell? ⟨tb1, 0, none⟩ = some (.int .i64 (J0 : Int)) := (HT9.out.on hSw).b.cell 0; go_simp; try (with_reducible rfl)
                  try simp only [Act.put, List.setIfInBounds_toArray, List.set_cons_zero, List.set_cons_succ, List.getElem_toArray, List.getElem_cons_succ, List.getElem_cons_zero]
                  refine wpAnyH_ready (rs := [3]) (by kernel_rfl) (by simp) (AllReadyH.cons rfl (fun K hK => ?_) AllReadyH.nil)
                  rw [if_pos (by kernel_rfl)]
                  go_simp
                  refine (y_moved (HZ9.out.on ((Below.refl wr.heap.size wr).drew)) 1 a1 HA.out.1).mono ?_
                  rintro e y1 ⟨rfl, hy1⟩
                  try dsimp only
                  refine hK.out _ _ (((Below.refl wr.heap.size wr).drew).trans (hy1.mono ((Below.refl wr.heap.size wr).drew).size)) (fun hHeld => ?_)
                  try simp only [Act.put, List.setIfInBounds_toArray, List.set_cons_zero, List.set_cons_succ, List.getElem_toArray, List.getElem_cons_succ, List.getElem_cons_zero]
                  refine wpAnyH_ready (rs := [7]) (by kernel_rfl) (by simp) (AllReadyH.cons rfl (fun K hK => ?_) AllReadyH.nil)
                  rw [if_pos (by kernel_rfl)]
                  go_simp
                  refine (y_waits (HZ9.out.on (((Below.refl wr.heap.size wr).drew).trans (hy1.mono ((Below.refl wr.heap.size wr).drew).size))) HE2.out.1 hm6 1 a2 HA.out.2.1).mono ?_
                  rintro e y2 ⟨rfl, hy2⟩
                  try dsimp only
                  refine hK.out _ _ ((((Below.refl wr.heap.size wr).drew).trans (hy1.mono ((Below.refl wr.heap.size wr).drew).size)).trans (hy2.mono (((Below.refl wr.heap.size wr).drew).trans (hy1.mono ((Below.refl wr.heap.size wr).drew).size)).size)) (fun hHeld => ?_)
                  try simp only [Act.put, List.setIfInBounds_toArray, List.set_cons_zero, List.set_cons_succ, List.getElem_toArray, List.getElem_cons_succ, List.getElem_cons_zero]
                  refine take_at (some 100) (i := 8) (v := ?_) rfl rfl (by kernel_rfl) (by kernel_rfl) (by kernel_rfl) (fun _ _ _ h => h) (Or.inl ⟨by kernel_rfl, ?_⟩) hHeld ?_
                  rotate_left
                  · intro wz hSw; go_simp; try (with_reducible rfl)
                  try simp only [Act.put, List.setIfInBounds_toArray, List.set_cons_zero, List.set_cons_succ, List.getElem_toArray, List.getElem_cons_succ, List.getElem_cons_zero]
                  refine take_at (some 105) (i := 13) (v := ?_) rfl rfl (by kernel_rfl) (by kernel_rfl) (by kernel_rfl) (fun _ _ _ h => h) (Or.inl ⟨by kernel_rfl, ?_⟩) hHeld ?_
                  rotate_left
                  · intro wz hSw; go_simp; try (with_reducible rfl)
                  try simp only [Act.put, List.setIfInBounds_toArray, List.set_cons_zero, List.set_cons_succ, List.getElem_toArray, List.getElem_cons_succ, List.getElem_cons_zero]
                  refine take_at (some 106) (i := 14) (v := ?_) rfl rfl (by kernel_rfl) (by kernel_rfl) (by kernel_rfl) (fun _ _ _ h => h) (Or.inl ⟨by kernel_rfl, ?_⟩) hHeld ?_
                  rotate_left
                  · intro wz hSw; go_simp; try (with_reducible rfl)
                  try simp only [Act.put, List.setIfInBounds_toArray, List.set_cons_zero, List.set_cons_succ, List.getElem_toArray, List.getElem_cons_succ, List.getElem_cons_zero]
                  refine take_at (some 107) (i := 15) (v := ?_) rfl rfl (by kernel_rfl) (by kernel_rfl) (by kernel_rfl) (fun _ _ _ h => h) (Or.inl ⟨by kernel_rfl, ?_⟩) hHeld ?_
                  rotate_left
                  · intro wz hSw; go_simp; try (with_reducible rfl)
                  try simp only [Act.put, List.setIfInBounds_toArray, List.set_cons_zero, List.set_cons_succ, List.getElem_toArray, List.getElem_cons_succ, List.getElem_cons_zero]
                  refine take_at (some 108) (i := 16) (v := ?_) rfl rfl (by kernel_rfl) (by kernel_rfl) (by kernel_rfl) (fun _ _ _ h => h) (Or.inl ⟨by kernel_rfl, ?_⟩) hHeld ?_
                  rotate_left
                  · intro wz hSw; go_simp; try (with_reducible rfl)
                  try simp only [Act.put, List.setIfInBounds_toArray, List.set_cons_zero, List.set_cons_succ, List.getElem_toArray, List.getElem_cons_succ, List.getElem_cons_zero]
                  refine take_at (some 109) (i := 17) (v := ?_) rfl rfl (by kernel_rfl) (by kernel_rfl) (by kernel_rfl) (fun _ _ _ h => h) (Or.inl ⟨by kernel_rfl, ?_⟩) hHeld ?_
                  rotate_left
                  · intro wz hSw; go_simp; try (with_reducible rfl)
                  try simp only [Act.put, List.setIfInBounds_toArray, List.set_cons_zero, List.set_cons_succ, List.getElem_toArray, List.getElem_cons_succ, List.getElem_cons_zero]
                  refine take_at (some 110) (i := 18) (v := ?_) rfl rfl (by kernel_rfl) (by kernel_rfl) (by kernel_rfl) (fun _ _ _ h => h) (Or.inl ⟨by kernel_rfl, ?_⟩) hHeld ?_
                  rotate_left
                  · intro wz hSw; have g9 : wz.cell? ⟨tb2, 0, none⟩ = some (.bool false) := (HU9.out.on hSw).b.cell 0; go_simp; try (with_reducible rfl)
                  try simp only [Act.put, List.setIfInBounds_toArray, List.set_cons_zero, List.set_cons_succ, List.getElem_toArray, List.getElem_cons_succ, List.getElem_cons_zero]
                  refine take_at (some 111) (i := 19) (v := ?_) rfl rfl (by kernel_rfl) (by kernel_rfl) (by kernel_rfl) (fun _ _ _ h => h) (Or.inl ⟨by kernel_rfl, ?_⟩) hHeld ?_
                  rotate_left
                  · intro wz hSw; go_simp; try (with_reducible rfl)
                  try simp only [Act.put, List.setIfInBounds_toArray, List.set_cons_zero, List.set_cons_succ, List.getElem_toArray, List.getElem_cons_succ, List.getElem_cons_zero]
                  refine take_at (some 112) (i := 20) (v := ?_) rfl rfl (by kernel_rfl) (by kernel_rfl) (by kernel_rfl) (fun _ _ _ h => h) (Or.inl ⟨by kernel_rfl, ?_⟩) hHeld ?_
                  rotate_left
                  · intro wz hSw; go_simp; try (with_reducible rfl)
                  try simp only [Act.put, List.setIfInBounds_toArray, List.set_cons_zero, List.set_cons_succ, List.getElem_toArray, List.getElem_cons_succ, List.getElem_cons_zero]
                  refine take_at (some 113) (i := 21) (v := ?_) rfl rfl (by kernel_rfl) (by kernel_rfl) (by kernel_rfl) (fun _ _ _ h => h) (Or.inl ⟨by kernel_rfl, ?_⟩) hHeld ?_
                  rotate_left
                  · intro wz hSw; go_simp; try (with_reducible rfl)
                  try simp only [Act.put, List.setIfInBounds_toArray, List.set_cons_zero, List.set_cons_succ, List.getElem_toArray, List.getElem_cons_succ, List.getElem_cons_zero]
                  refine take_at (some 114) (i := 22) (v := ?_) rfl rfl (by kernel_rfl) (by kernel_rfl) (by kernel_rfl) (fun _ _ _ h => h) (Or.inl ⟨by kernel_rfl, ?_⟩) hHeld ?_
                  rotate_left
                  · intro wz hSw; go_simp; try (with_reducible rfl)
                  try simp only [Act.put, List.setIfInBounds_toArray, List.set_cons_zero, List.set_cons_succ, List.getElem_toArray, List.getElem_cons_succ, List.getElem_cons_zero]
                  refine take_at (some 116) (i := 24) (v := ?_) rfl rfl (by kernel_rfl) (by kernel_rfl) (by kernel_rfl) (fun _ _ _ h => h) (Or.inl ⟨by kernel_rfl, ?_⟩) hHeld ?_
                  rotate_left
                  · intro wz hSw; go_simp; try (with_reducible rfl)
                  try simp only [Act.put, List.setIfInBounds_toArray, List.set_cons_zero, List.set_cons_succ, List.getElem_toArray, List.getElem_cons_succ, List.getElem_cons_zero]
                  refine take_at (some 117) (i := 25) (v := ?_) rfl rfl (by kernel_rfl) (by kernel_rfl) (by kernel_rfl) (fun _ _ _ h => h) (Or.inl ⟨by kernel_rfl, ?_⟩) hHeld ?_
                  rotate_left
                  · intro wz hSw; go_simp; try (with_reducible rfl)
                  try simp only [Act.put, List.setIfInBounds_toArray, List.set_cons_zero, List.set_cons_succ, List.getElem_toArray, List.getElem_cons_succ, List.getElem_cons_zero]
                  refine take_at (some 118) (i := 26) (v := ?_) rfl rfl (by kernel_rfl) (by kernel_rfl) (by kernel_rfl) (fun _ _ _ h => h) (Or.inl ⟨by kernel_rfl, ?_⟩) hHeld ?_
                  rotate_left
                  · intro wz hSw; go_simp; try (with_reducible rfl)
                  try simp only [Act.put, List.setIfInBounds_toArray, List.set_cons_zero, List.set_cons_succ, List.getElem_toArray, List.getElem_cons_succ, List.getElem_cons_zero]
                  refine take_at (some 119) (i := 27) (v := ?_) rfl rfl (by kernel_rfl) (by kernel_rfl) (by kernel_rfl) (fun _ _ _ h => h) (Or.inl ⟨by kernel_rfl, ?_⟩) hHeld ?_
                  rotate_left
                  · intro wz hSw; go_simp; try (with_reducible rfl)
                  try simp only [Act.put, List.setIfInBounds_toArray, List.set_cons_zero, List.set_cons_succ, List.getElem_toArray, List.getElem_cons_succ, List.getElem_cons_zero]
                  refine take_at (some 120) (i := 28) (v := ?_) rfl rfl (by kernel_rfl) (by kernel_rfl) (by kernel_rfl) (fun _ _ _ h => h) (Or.inl ⟨by kernel_rfl, ?_⟩) hHeld ?_
                  rotate_left
                  · intro wz hSw; go_simp; try (with_reducible rfl)
                  try simp only [Act.put, List.setIfInBounds_toArray, List.set_cons_zero, List.set_cons_succ, List.getElem_toArray, List.getElem_cons_succ, List.getElem_cons_zero]
                  refine wpAnyH_ready (rs := [23]) (by kernel_rfl) (by simp) (AllReadyH.cons rfl (fun K hK => ?_) AllReadyH.nil)
                  rw [if_pos (by kernel_rfl)]
                  go_simp
                  refine (y_room (HZ9.out.on ((((Below.refl wr.heap.size wr).drew).trans (hy1.mono ((Below.refl wr.heap.size wr).drew).size)).trans (hy2.mono (((Below.refl wr.heap.size wr).drew).trans (hy1.mono ((Below.refl wr.heap.size wr).drew).size)).size))) HE2.out.1 hm6 0 a3 (HA.out.2.2.1 rfl)).mono ?_
                  rintro e y3 ⟨rfl, hy3⟩
                  try dsimp only
                  refine hK.out _ _ (((((Below.refl wr.heap.size wr).drew).trans (hy1.mono ((Below.refl wr.heap.size wr).drew).size)).trans (hy2.mono (((Below.refl wr.heap.size wr).drew).trans (hy1.mono ((Below.refl wr.heap.size wr).drew).size)).size)).trans (hy3.mono ((((Below.refl wr.heap.size wr).drew).trans (hy1.mono ((Below.refl wr.heap.size wr).drew).size)).trans (hy2.mono (((Below.refl wr.heap.size wr).drew).trans (hy1.mono ((Below.refl wr.heap.size wr).drew).size)).size)).size)) (fun hHeld => ?_)
                  try simp only [Act.put, List.setIfInBounds_toArray, List.set_cons_zero, List.set_cons_succ, List.getElem_toArray, List.getElem_cons_succ, List.getElem_cons_zero]
                  refine wpAnyH_ready (rs := [29]) (by kernel_rfl) (by simp) (AllReadyH.cons rfl (fun K hK => ?_) AllReadyH.nil)
                  rw [if_pos (by kernel_rfl)]
                  go_simp
                  refine (y_waits (HZ9.out.on (((((Below.refl wr.heap.size wr).drew).trans (hy1.mono ((Below.refl wr.heap.size wr).drew).size)).trans (hy2.mono (((Below.refl wr.heap.size wr).drew).trans (hy1.mono ((Below.refl wr.heap.size wr).drew).size)).size)).trans (hy3.mono ((((Below.refl wr.heap.size wr).drew).trans (hy1.mono ((Below.refl wr.heap.size wr).drew).size)).trans (hy2.mono (((Below.refl wr.heap.size wr).drew).trans (hy1.mono ((Below.refl wr.heap.size wr).drew).size)).size)).size))) HE2.out.1 hm6 1 a2 HA.out.2.1).mono ?_
                  rintro e y4 ⟨rfl, hy4⟩
                  try dsimp only
                  refine hK.out _ _ ((((((Below.refl wr.heap.size wr).drew).trans (hy1.mono ((Below.refl wr.heap.size wr).drew).size)).trans (hy2.mono (((Below.refl wr.heap.size wr).drew).trans (hy1.mono ((Below.refl wr.heap.size wr).drew).size)).size)).trans (hy3.mono ((((Below.refl wr.heap.size wr).drew).trans (hy1.mono ((Below.refl wr.heap.size wr).drew).size)).trans (hy2.mono (((Below.refl wr.heap.size wr).drew).trans (hy1.mono ((Below.refl wr.heap.size wr).drew).size)).size)).size)).trans (hy4.mono (((((Below.refl wr.heap.size wr).drew).trans (hy1.mono ((Below.refl wr.heap.size wr).drew).size)).trans (hy2.mono (((Below.refl wr.heap.size wr).drew).trans (hy1.mono ((Below.refl wr.heap.size wr).drew).size)).size)).trans (hy3.mono ((((Below.refl wr.heap.size wr).drew).trans (hy1.mono ((Below.refl wr.heap.size wr).drew).size)).trans (hy2.mono (((Below.refl wr.heap.size wr).drew).trans (hy1.mono ((Below.refl wr.heap.size wr).drew).size)).size)).size)).size)) (fun hHeld => ?_)
                  try simp only [Act.put, List.setIfInBounds_toArray, List.set_cons_zero, List.set_cons_succ, List.getElem_toArray, List.getElem_cons_succ, List.getElem_cons_zero]
                  refine take_at (some 122) (i := 30) (v := ?_) rfl rfl (by kernel_rfl) (by kernel_rfl) (by kernel_rfl) (fun _ _ _ h => h) (Or.inl ⟨by kernel_rfl, ?_⟩) hHeld ?_
                  rotate_left
                  · intro wz hSw; go_simp; try (with_reducible rfl)
                  try simp only [Act.put, List.setIfInBounds_toArray, List.set_cons_zero, List.set_cons_succ, List.getElem_toArray, List.getElem_cons_succ, List.getElem_cons_zero]
                  refine take_at (some 123) (i := 31) (v := ?_) rfl rfl (by kernel_rfl) (by kernel_rfl) (by kernel_rfl) (fun _ _ _ h => h) (Or.inl ⟨by kernel_rfl, ?_⟩) hHeld ?_
                  rotate_left
                  · intro wz hSw; go_simp; try (with_reducible rfl)
                  try simp only [Act.put, List.setIfInBounds_toArray, List.set_cons_zero, List.set_cons_succ, List.getElem_toArray, List.getElem_cons_succ, List.getElem_cons_zero]
                  refine take_at (some 124) (i := 32) (v := ?_) rfl rfl (by kernel_rfl) (by kernel_rfl) (by kernel_rfl) (fun _ _ _ h => h) (Or.inl ⟨by kernel_rfl, ?_⟩) hHeld ?_
                  rotate_left
                  · intro wz hSw; go_simp; try (with_reducible rfl)
                  try simp only [Act.put, List.setIfInBounds_toArray, List.set_cons_zero, List.set_cons_succ, List.getElem_toArray, List.getElem_cons_succ, List.getElem_cons_zero]
                  refine take_at (some 125) (i := 33) (v := ?_) rfl rfl (by kernel_rfl) (by kernel_rfl) (by kernel_rfl) (fun _ _ _ h => h) (Or.inl ⟨by kernel_rfl, ?_⟩) hHeld ?_
                  rotate_left
                  · intro wz hSw; go_simp; try (with_reducible rfl)
                  try simp only [Act.put, List.setIfInBounds_toArray, List.set_cons_zero, List.set_cons_succ, List.getElem_toArray, List.getElem_cons_succ, List.getElem_cons_zero]
                  refine take_at (some 126) (i := 34) (v := ?_) rfl rfl (by kernel_rfl) (by kernel_rfl) (by kernel_rfl) (fun _ _ _ h => h) (Or.inl ⟨by kernel_rfl, ?_⟩) hHeld ?_
                  rotate_left
                  · intro wz hSw; go_simp; try (with_reducible rfl)
                  try simp only [Act.put, List.setIfInBounds_toArray, List.set_cons_zero, List.set_cons_succ, List.getElem_toArray, List.getElem_cons_succ, List.getElem_cons_zero]
                  refine take_at (some 127) (i := 35) (v := ?_) rfl rfl (by kernel_rfl) (by kernel_rfl) (by kernel_rfl) (fun _ _ _ h => h) (Or.inl ⟨by kernel_rfl, ?_⟩) hHeld ?_
                  rotate_left
                  · intro wz hSw; go_simp; try (with_reducible rfl)
                  try simp only [Act.put, List.setIfInBounds_toArray, List.set_cons_zero, List.set_cons_succ, List.getElem_toArray, List.getElem_cons_succ, List.getElem_cons_zero]
                  refine take_at (some 128) (i := 36) (v := ?_) rfl rfl (by kernel_rfl) (by kernel_rfl) (by kernel_rfl) (fun _ _ _ h => h) (Or.inl ⟨by kernel_rfl, ?_⟩) hHeld ?_
                  rotate_left
                  · intro wz hSw; go_simp; try (with_reducible rfl)
                  try simp only [Act.put, List.setIfInBounds_toArray, List.set_cons_zero, List.set_cons_succ, List.getElem_toArray, List.getElem_cons_succ, List.getElem_cons_zero]
                  refine take_at (some 129) (i := 37) (v := ?_) rfl rfl (by kernel_rfl) (by kernel_rfl) (by kernel_rfl) (fun _ _ _ h => h) (Or.inl ⟨by kernel_rfl, ?_⟩) hHeld ?_
                  rotate_left
                  · intro wz hSw; go_simp; try (with_reducible rfl)
                  try simp only [Act.put, List.setIfInBounds_toArray, List.set_cons_zero, List.set_cons_succ, List.getElem_toArray, List.getElem_cons_succ, List.getElem_cons_zero]
                  refine take_at (some 130) (i := 38) (v := ?_) rfl rfl (by kernel_rfl) (by kernel_rfl) (by kernel_rfl) (fun _ _ _ h => h) (Or.inl ⟨by kernel_rfl, ?_⟩) hHeld ?_
                  rotate_left
                  · intro wz hSw; have g9 : wz.cell? ⟨tb2, 0, none⟩ = some (.bool false) := (HU9.out.on hSw).b.cell 0; go_simp; try (with_reducible rfl)
                  try simp only [Act.put, List.setIfInBounds_toArray, List.set_cons_zero, List.set_cons_succ, List.getElem_toArray, List.getElem_cons_succ, List.getElem_cons_zero]
                  refine take_at (some 131) (i := 39) (v := ?_) rfl rfl (by kernel_rfl) (by kernel_rfl) (by kernel_rfl) (fun _ _ _ h => h) (Or.inl ⟨by kernel_rfl, ?_⟩) hHeld ?_
                  rotate_left
                  · intro wz hSw; go_simp; try (with_reducible rfl)
                  try simp only [Act.put, List.setIfInBounds_toArray, List.set_cons_zero, List.set_cons_succ, List.getElem_toArray, List.getElem_cons_succ, List.getElem_cons_zero]
                  refine take_at (some 132) (i := 40) (v := undef) rfl rfl (by kernel_rfl) (by kernel_rfl) (by kernel_rfl) (fun _ _ _ h => h) (Or.inr ⟨by kernel_rfl, rfl⟩) hHeld ?_
                  try simp only [Act.put, List.setIfInBounds_toArray, List.set_cons_zero, List.set_cons_succ, List.getElem_toArray, List.getElem_cons_succ, List.getElem_cons_zero]
                  refine take_at (some 133) (i := 41) (v := undef) rfl rfl (by kernel_rfl) (by kernel_rfl) (by kernel_rfl) (fun _ _ _ h => h) (Or.inr ⟨by kernel_rfl, rfl⟩) hHeld ?_
                  try simp only [Act.put, List.setIfInBounds_toArray, List.set_cons_zero, List.set_cons_succ, List.getElem_toArray, List.getElem_cons_succ, List.getElem_cons_zero]
                  refine take_at (some 134) (i := 42) (v := undef) rfl rfl (by kernel_rfl) (by kernel_rfl) (by kernel_rfl) (fun _ _ _ h => h) (Or.inr ⟨by kernel_rfl, rfl⟩) hHeld ?_
                  try simp only [Act.put, List.setIfInBounds_toArray, List.set_cons_zero, List.set_cons_succ, List.getElem_toArray, List.getElem_cons_succ, List.getElem_cons_zero]
                  refine take_at (some 135) (i := 43) (v := undef) rfl rfl (by kernel_rfl) (by kernel_rfl) (by kernel_rfl) (fun _ _ _ h => h) (Or.inr ⟨by kernel_rfl, rfl⟩) hHeld ?_
                  try simp only [Act.put, List.setIfInBounds_toArray, List.set_cons_zero, List.set_cons_succ, List.getElem_toArray, List.getElem_cons_succ, List.getElem_cons_zero]
                  refine take_at (some 136) (i := 44) (v := ?_) rfl rfl (by kernel_rfl) (by kernel_rfl) (by kernel_rfl) (fun _ _ _ h => h) (Or.inl ⟨by kernel_rfl, ?_⟩) hHeld ?_
                  rotate_left
                  · intro wz hSw; go_simp; try (with_reducible rfl)
                  try simp only [Act.put, List.setIfInBounds_toArray, List.set_cons_zero, List.set_cons_succ, List.getElem_toArray, List.getElem_cons_succ, List.getElem_cons_zero]
                  refine take_at (some 137) (i := 45) (v := ?_) rfl rfl (by kernel_rfl) (by kernel_rfl) (by kernel_rfl) (fun _ _ _ h => h) (Or.inl ⟨by kernel_rfl, ?_⟩) hHeld ?_
                  rotate_left
                  · intro wz hSw; go_simp; try (with_reducible rfl)
                  try simp only [Act.put, List.setIfInBounds_toArray, List.set_cons_zero, List.set_cons_succ, List.getElem_toArray, List.getElem_cons_succ, List.getElem_cons_zero]
                  refine wpAnyH_done (by kernel_rfl) ?_ _
                  have hbb := ((((((Below.refl wr.heap.size wr).drew).trans (hy1.mono ((Below.refl wr.heap.size wr).drew).size)).trans (hy2.mono (((Below.refl wr.heap.size wr).drew).trans (hy1.mono ((Below.refl wr.heap.size wr).drew).size)).size)).trans (hy3.mono ((((Below.refl wr.heap.size wr).drew).trans (hy1.mono ((Below.refl wr.heap.size wr).drew).size)).trans (hy2.mono (((Below.refl wr.heap.size wr).drew).trans (hy1.mono ((Below.refl wr.heap.size wr).drew).size)).size)).size)).trans (hy4.mono (((((Below.refl wr.heap.size wr).drew).trans (hy1.mono ((Below.refl wr.heap.size wr).drew).size)).trans (hy2.mono (((Below.refl wr.heap.size wr).drew).trans (hy1.mono ((Below.refl wr.heap.size wr).drew).size)).size)).trans (hy3.mono ((((Below.refl wr.heap.size wr).drew).trans (hy1.mono ((Below.refl wr.heap.size wr).drew).size)).trans (hy2.mono (((Below.refl wr.heap.size wr).drew).trans (hy1.mono ((Below.refl wr.heap.size wr).drew).size)).size)).size)).size))
                  have HZa := Lib.hid (HZ9.out.on hbb)
                  have HTa := Lib.hid (HT9.out.on hbb)
                  have HUa := Lib.hid (HU9.out.on hbb)
                  clear hbb hHeld
                  go_wp2_with fail
                  go_roundw
                  case rel => exact ⟨1, by omega, by first | rfl | go_num, HZa, HTa, HUa⟩
                  case measure => simp [intOf] <;> omega
                | true =>
                  go_upto_region 21 with fail
                  try simp only [List.cons_append, List.nil_append]
                  refine wp_region_held_drew (S := fun wz => Below wr.heap.size wr wz) (by kernel_rfl) ((Below.refl _ _).drew) (fun hHeld => ?_)
                  refine take_at (some 92) (i := 0) (v := ?_) rfl rfl (by kernel_rfl) (by kernel_rfl) (by kernel_rfl) (fun _ _ _ h => h) (Or.inl ⟨by kernel_rfl, ?_⟩) hHeld ?_
                  rotate_left
                  · intro wz hSw; go_simp; try (with_reducible rfl)
                  try simp only [Act.put, List.setIfInBounds_toArray, List.set_cons_zero, List.set_cons_succ, List.getElem_toArray, List.getElem_cons_succ, List.getElem_cons_zero]
                  refine take_at (some 93) (i := 1) (v := ?_) rfl rfl (by kernel_rfl) (by kernel_rfl) (by kernel_rfl) (fun _ _ _ h => h) (Or.inl ⟨by kernel_rfl, ?_⟩) hHeld ?_
                  rotate_left
                  · intro wz hSw; go_simp; try (with_reducible rfl)
                  try simp only [Act.put, List.setIfInBounds_toArray, List.set_cons_zero, List.set_cons_succ, List.getElem_toArray, List.getElem_cons_succ, List.getElem_cons_zero]
                  refine take_at (some 94) (i := 2) (v := ?_) rfl rfl (by kernel_rfl) (by kernel_rfl) (by kernel_rfl) (fun _ _ _ h => h) (Or.inl ⟨by kernel_rfl, ?_⟩) hHeld ?_
                  rotate_left
                  · intro wz hSw; go_simp; try (with_reducible rfl)
                  try simp only [Act.put, List.setIfInBounds_toArray, List.set_cons_zero, List.set_cons_succ, List.getElem_toArray, List.getElem_cons_succ, List.getElem_cons_zero]
                  refine take_at (some 96) (i := 4) (v := ?_) rfl rfl (by kernel_rfl) (by kernel_rfl) (by kernel_rfl) (fun _ _ _ h => h) (Or.inl ⟨by kernel_rfl, ?_⟩) hHeld ?_
                  rotate_left
                  · intro wz hSw; go_simp; try (with_reducible rfl)
                  try simp only [Act.put, List.setIfInBounds_toArray, List.set_cons_zero, List.set_cons_succ, List.getElem_toArray, List.getElem_cons_succ, List.getElem_cons_zero]
                  refine take_at (some 97) (i := 5) (v := ?_) rfl rfl (by kernel_rfl) (by kernel_rfl) (by kernel_rfl) (fun _ _ _ h => h) (Or.inl ⟨by kernel_rfl, ?_⟩) hHeld ?_
                  rotate_left
                  · intro wz hSw; go_simp; try (with_reducible rfl)
                  try simp only [Act.put, List.setIfInBounds_toArray, List.set_cons_zero, List.set_cons_succ, List.getElem_toArray, List.getElem_cons_succ, List.getElem_cons_zero]
                  refine take_at (some 98) (i := 6) (v := ?_) rfl rfl (by kernel_rfl) (by kernel_rfl) (by kernel_rfl) (fun _ _ _ h => h) (Or.inl ⟨by kernel_rfl, ?_⟩) hHeld ?_
                  rotate_left
                  · intro wz hSw; go_simp; try (with_reducible rfl)
                  try simp only [Act.put, List.setIfInBounds_toArray, List.set_cons_zero, List.set_cons_succ, List.getElem_toArray, List.getElem_cons_succ, List.getElem_cons_zero]
                  refine take_at (some 101) (i := 9) (v := ?_) rfl rfl (by kernel_rfl) (by kernel_rfl) (by kernel_rfl) (fun _ _ _ h => h) (Or.inl ⟨by kernel_rfl, ?_⟩) hHeld ?_
                  rotate_left
                  · intro wz hSw; go_simp; try (with_reducible rfl)
                  try simp only [Act.put, List.setIfInBounds_toArray, List.set_cons_zero, List.set_cons_succ, List.getElem_toArray, List.getElem_cons_succ, List.getElem_cons_zero]
                  refine take_at (some 102) (i := 10) (v := ?_) rfl rfl (by kernel_rfl) (by kernel_rfl) (by kernel_rfl) (fun _ _ _ h => h) (Or.inl ⟨by kernel_rfl, ?_⟩) hHeld ?_
                  rotate_left
                  · intro wz hSw; go_simp; try (with_reducible rfl)
                  try simp only [Act.put, List.setIfInBounds_toArray, List.set_cons_zero, List.set_cons_succ, List.getElem_toArray, List.getElem_cons_succ, List.getElem_cons_zero]
                  refine take_at (some 103) (i := 11) (v := ?_) rfl rfl (by kernel_rfl) (by kernel_rfl) (by kernel_rfl) (fun _ _ _ h => h) (Or.inl ⟨by kernel_rfl, ?_⟩) hHeld ?_
                  rotate_left
                  · intro wz hSw; go_simp; try (with_reducible rfl)
                  try simp only [Act.put, List.setIfInBounds_toArray, List.set_cons_zero, List.set_cons_succ, List.getElem_toArray, List.getElem_cons_succ, List.getElem_cons_zero]
                  refine take_at (some 104) (i := 12) (v := ?_) rfl rfl (by kernel_rfl) (by kernel_rfl) (by kernel_rfl) (fun _ _ _ h => h) (Or.inl ⟨by kernel_rfl, ?_⟩) hHeld ?_
                  rotate_left
                  · intro wz hSw; have d9 : wz.cell? ⟨tb1, 0, none⟩ = some (.int .i64 (J0 : Int)) := (HT9.out.on hSw).b.cell 0; go_simp; try (with_reducible rfl)
                  try simp only [Act.put, List.setIfInBounds_toArray, List.set_cons_zero, List.set_cons_succ, List.getElem_toArray, List.getElem_cons_succ, List.getElem_cons_zero]
                  refine wpAnyH_ready (rs := [3]) (by kernel_rfl) (by simp) (AllReadyH.cons rfl (fun K hK => ?_) AllReadyH.nil)
                  rw [if_pos (by kernel_rfl)]
                  go_simp
                  refine (y_moved (HZ9.out.on ((Below.refl wr.heap.size wr).drew)) 1 a1 HA.out.1).mono ?_
                  rintro e y1 ⟨rfl, hy1⟩
                  try dsimp only
                  refine hK.out _ _ (((Below.refl wr.heap.size wr).drew).trans (hy1.mono ((Below.refl wr.heap.size wr).drew).size)) (fun hHeld => ?_)
                  try simp only [Act.put, List.setIfInBounds_toArray, List.set_cons_zero, List.set_cons_succ, List.getElem_toArray, List.getElem_cons_succ, List.getElem_cons_zero]
                  refine wpAnyH_ready (rs := [7]) (by kernel_rfl) (by simp) (AllReadyH.cons rfl (fun K hK => ?_) AllReadyH.nil)
                  rw [if_pos (by kernel_rfl)]
                  go_simp
                  refine (y_waits (HZ9.out.on (((Below.refl wr.heap.size wr).drew).trans (hy1.mono ((Below.refl wr.heap.size wr).drew).size))) HE2.out.1 hm6 1 a2 HA.out.2.1).mono ?_
                  rintro e y2 ⟨rfl, hy2⟩
                  try dsimp only
                  refine hK.out _ _ ((((Below.refl wr.heap.size wr).drew).trans (hy1.mono ((Below.refl wr.heap.size wr).drew).size)).trans (hy2.mono (((Below.refl wr.heap.size wr).drew).trans (hy1.mono ((Below.refl wr.heap.size wr).drew).size)).size)) (fun hHeld => ?_)
                  try simp only [Act.put, List.setIfInBounds_toArray, List.set_cons_zero, List.set_cons_succ, List.getElem_toArray, List.getElem_cons_succ, List.getElem_cons_zero]
                  refine take_at (some 100) (i := 8) (v := ?_) rfl rfl (by kernel_rfl) (by kernel_rfl) (by kernel_rfl) (fun _ _ _ h => h) (Or.inl ⟨by kernel_rfl, ?_⟩) hHeld ?_
                  rotate_left
                  · intro wz hSw; go_simp; try (with_reducible rfl)
                  try simp only [Act.put, List.setIfInBounds_toArray, List.set_cons_zero, List.set_cons_succ, List.getElem_toArray, List.getElem_cons_succ, List.getElem_cons_zero]
                  refine take_at (some 105) (i := 13) (v := ?_) rfl rfl (by kernel_rfl) (by kernel_rfl) (by kernel_rfl) (fun _ _ _ h => h) (Or.inl ⟨by kernel_rfl, ?_⟩) hHeld ?_
                  rotate_left
                  · intro wz hSw; go_simp; try (with_reducible rfl)
                  try simp only [Act.put, List.setIfInBounds_toArray, List.set_cons_zero, List.set_cons_succ, List.getElem_toArray, List.getElem_cons_succ, List.getElem_cons_zero]
                  refine take_at (some 106) (i := 14) (v := ?_) rfl rfl (by kernel_rfl) (by kernel_rfl) (by kernel_rfl) (fun _ _ _ h => h) (Or.inl ⟨by kernel_rfl, ?_⟩) hHeld ?_
                  rotate_left
                  · intro wz hSw; go_simp; try (with_reducible rfl)
                  try simp only [Act.put, List.setIfInBounds_toArray, List.set_cons_zero, List.set_cons_succ, List.getElem_toArray, List.getElem_cons_succ, List.getElem_cons_zero]
                  refine take_at (some 107) (i := 15) (v := ?_) rfl rfl (by kernel_rfl) (by kernel_rfl) (by kernel_rfl) (fun _ _ _ h => h) (Or.inl ⟨by kernel_rfl, ?_⟩) hHeld ?_
                  rotate_left
                  · intro wz hSw; go_simp; try (with_reducible rfl)
                  try simp only [Act.put, List.setIfInBounds_toArray, List.set_cons_zero, List.set_cons_succ, List.getElem_toArray, List.getElem_cons_succ, List.getElem_cons_zero]
                  refine take_at (some 108) (i := 16) (v := ?_) rfl rfl (by kernel_rfl) (by kernel_rfl) (by kernel_rfl) (fun _ _ _ h => h) (Or.inl ⟨by kernel_rfl, ?_⟩) hHeld ?_
                  rotate_left
                  · intro wz hSw; go_simp; try (with_reducible rfl)
                  try simp only [Act.put, List.setIfInBounds_toArray, List.set_cons_zero, List.set_cons_succ, List.getElem_toArray, List.getElem_cons_succ, List.getElem_cons_zero]
                  refine take_at (some 109) (i := 17) (v := ?_) rfl rfl (by kernel_rfl) (by kernel_rfl) (by kernel_rfl) (fun _ _ _ h => h) (Or.inl ⟨by kernel_rfl, ?_⟩) hHeld ?_
                  rotate_left
                  · intro wz hSw; go_simp; try (with_reducible rfl)
                  try simp only [Act.put, List.setIfInBounds_toArray, List.set_cons_zero, List.set_cons_succ, List.getElem_toArray, List.getElem_cons_succ, List.getElem_cons_zero]
                  refine take_at (some 110) (i := 18) (v := ?_) rfl rfl (by kernel_rfl) (by kernel_rfl) (by kernel_rfl) (fun _ _ _ h => h) (Or.inl ⟨by kernel_rfl, ?_⟩) hHeld ?_
                  rotate_left
                  · intro wz hSw; have g9 : wz.cell? ⟨tb2, 0, none⟩ = some (.bool true) := (HU9.out.on hSw).b.cell 0; go_simp; try (with_reducible rfl)
                  try simp only [Act.put, List.setIfInBounds_toArray, List.set_cons_zero, List.set_cons_succ, List.getElem_toArray, List.getElem_cons_succ, List.getElem_cons_zero]
                  refine take_at (some 111) (i := 19) (v := ?_) rfl rfl (by kernel_rfl) (by kernel_rfl) (by kernel_rfl) (fun _ _ _ h => h) (Or.inl ⟨by kernel_rfl, ?_⟩) hHeld ?_
                  rotate_left
                  · intro wz hSw; go_simp; try (with_reducible rfl)
                  try simp only [Act.put, List.setIfInBounds_toArray, List.set_cons_zero, List.set_cons_succ, List.getElem_toArray, List.getElem_cons_succ, List.getElem_cons_zero]
                  refine take_at (some 112) (i := 20) (v := ?_) rfl rfl (by kernel_rfl) (by kernel_rfl) (by kernel_rfl) (fun _ _ _ h => h) (Or.inl ⟨by kernel_rfl, ?_⟩) hHeld ?_
                  rotate_left
                  · intro wz hSw; go_simp; try (with_reducible rfl)
                  try simp only [Act.put, List.setIfInBounds_toArray, List.set_cons_zero, List.set_cons_succ, List.getElem_toArray, List.getElem_cons_succ, List.getElem_cons_zero]
                  refine take_at (some 113) (i := 21) (v := undef) rfl rfl (by kernel_rfl) (by kernel_rfl) (by kernel_rfl) (fun _ _ _ h => h) (Or.inr ⟨by kernel_rfl, rfl⟩) hHeld ?_
                  try simp only [Act.put, List.setIfInBounds_toArray, List.set_cons_zero, List.set_cons_succ, List.getElem_toArray, List.getElem_cons_succ, List.getElem_cons_zero]
                  refine take_at (some 114) (i := 22) (v := undef) rfl rfl (by kernel_rfl) (by kernel_rfl) (by kernel_rfl) (fun _ _ _ h => h) (Or.inr ⟨by kernel_rfl, rfl⟩) hHeld ?_
                  try simp only [Act.put, List.setIfInBounds_toArray, List.set_cons_zero, List.set_cons_succ, List.getElem_toArray, List.getElem_cons_succ, List.getElem_cons_zero]
                  refine take_at (some 115) (i := 23) (v := undef) rfl rfl (by kernel_rfl) (by kernel_rfl) (by kernel_rfl) (fun _ _ _ h => h) (Or.inr ⟨by kernel_rfl, rfl⟩) hHeld ?_
                  try simp only [Act.put, List.setIfInBounds_toArray, List.set_cons_zero, List.set_cons_succ, List.getElem_toArray, List.getElem_cons_succ, List.getElem_cons_zero]
                  refine take_at (some 116) (i := 24) (v := undef) rfl rfl (by kernel_rfl) (by kernel_rfl) (by kernel_rfl) (fun _ _ _ h => h) (Or.inr ⟨by kernel_rfl, rfl⟩) hHeld ?_
                  try simp only [Act.put, List.setIfInBounds_toArray, List.set_cons_zero, List.set_cons_succ, List.getElem_toArray, List.getElem_cons_succ, List.getElem_cons_zero]
                  refine take_at (some 117) (i := 25) (v := undef) rfl rfl (by kernel_rfl) (by kernel_rfl) (by kernel_rfl) (fun _ _ _ h => h) (Or.inr ⟨by kernel_rfl, rfl⟩) hHeld ?_
                  try simp only [Act.put, List.setIfInBounds_toArray, List.set_cons_zero, List.set_cons_succ, List.getElem_toArray, List.getElem_cons_succ, List.getElem_cons_zero]
                  refine take_at (some 118) (i := 26) (v := undef) rfl rfl (by kernel_rfl) (by kernel_rfl) (by kernel_rfl) (fun _ _ _ h => h) (Or.inr ⟨by kernel_rfl, rfl⟩) hHeld ?_
                  try simp only [Act.put, List.setIfInBounds_toArray, List.set_cons_zero, List.set_cons_succ, List.getElem_toArray, List.getElem_cons_succ, List.getElem_cons_zero]
                  refine take_at (some 119) (i := 27) (v := undef) rfl rfl (by kernel_rfl) (by kernel_rfl) (by kernel_rfl) (fun _ _ _ h => h) (Or.inr ⟨by kernel_rfl, rfl⟩) hHeld ?_
                  try simp only [Act.put, List.setIfInBounds_toArray, List.set_cons_zero, List.set_cons_succ, List.getElem_toArray, List.getElem_cons_succ, List.getElem_cons_zero]
                  refine take_at (some 120) (i := 28) (v := undef) rfl rfl (by kernel_rfl) (by kernel_rfl) (by kernel_rfl) (fun _ _ _ h => h) (Or.inr ⟨by kernel_rfl, rfl⟩) hHeld ?_
                  try simp only [Act.put, List.setIfInBounds_toArray, List.set_cons_zero, List.set_cons_succ, List.getElem_toArray, List.getElem_cons_succ, List.getElem_cons_zero]
                  refine take_at (some 121) (i := 29) (v := undef) rfl rfl (by kernel_rfl) (by kernel_rfl) (by kernel_rfl) (fun _ _ _ h => h) (Or.inr ⟨by kernel_rfl, rfl⟩) hHeld ?_
                  try simp only [Act.put, List.setIfInBounds_toArray, List.set_cons_zero, List.set_cons_succ, List.getElem_toArray, List.getElem_cons_succ, List.getElem_cons_zero]
                  refine take_at (some 122) (i := 30) (v := undef) rfl rfl (by kernel_rfl) (by kernel_rfl) (by kernel_rfl) (fun _ _ _ h => h) (Or.inr ⟨by kernel_rfl, rfl⟩) hHeld ?_
                  try simp only [Act.put, List.setIfInBounds_toArray, List.set_cons_zero, List.set_cons_succ, List.getElem_toArray, List.getElem_cons_succ, List.getElem_cons_zero]
                  refine take_at (some 123) (i := 31) (v := undef) rfl rfl (by kernel_rfl) (by kernel_rfl) (by kernel_rfl) (fun _ _ _ h => h) (Or.inr ⟨by kernel_rfl, rfl⟩) hHeld ?_
                  try simp only [Act.put, List.setIfInBounds_toArray, List.set_cons_zero, List.set_cons_succ, List.getElem_toArray, List.getElem_cons_succ, List.getElem_cons_zero]
                  refine take_at (some 124) (i := 32) (v := ?_) rfl rfl (by kernel_rfl) (by kernel_rfl) (by kernel_rfl) (fun _ _ _ h => h) (Or.inl ⟨by kernel_rfl, ?_⟩) hHeld ?_
                  rotate_left
                  · intro wz hSw; go_simp; try (with_reducible rfl)
                  try simp only [Act.put, List.setIfInBounds_toArray, List.set_cons_zero, List.set_cons_succ, List.getElem_toArray, List.getElem_cons_succ, List.getElem_cons_zero]
                  refine take_at (some 125) (i := 33) (v := ?_) rfl rfl (by kernel_rfl) (by kernel_rfl) (by kernel_rfl) (fun _ _ _ h => h) (Or.inl ⟨by kernel_rfl, ?_⟩) hHeld ?_
                  rotate_left
                  · intro wz hSw; go_simp; try (with_reducible rfl)
                  try simp only [Act.put, List.setIfInBounds_toArray, List.set_cons_zero, List.set_cons_succ, List.getElem_toArray, List.getElem_cons_succ, List.getElem_cons_zero]
                  refine take_at (some 126) (i := 34) (v := ?_) rfl rfl (by kernel_rfl) (by kernel_rfl) (by kernel_rfl) (fun _ _ _ h => h) (Or.inl ⟨by kernel_rfl, ?_⟩) hHeld ?_
                  rotate_left
                  · intro wz hSw; go_simp; try (with_reducible rfl)
                  try simp only [Act.put, List.setIfInBounds_toArray, List.set_cons_zero, List.set_cons_succ, List.getElem_toArray, List.getElem_cons_succ, List.getElem_cons_zero]
                  refine take_at (some 127) (i := 35) (v := ?_) rfl rfl (by kernel_rfl) (by kernel_rfl) (by kernel_rfl) (fun _ _ _ h => h) (Or.inl ⟨by kernel_rfl, ?_⟩) hHeld ?_
                  rotate_left
                  · intro wz hSw; go_simp; try (with_reducible rfl)
                  try simp only [Act.put, List.setIfInBounds_toArray, List.set_cons_zero, List.set_cons_succ, List.getElem_toArray, List.getElem_cons_succ, List.getElem_cons_zero]
                  refine take_at (some 128) (i := 36) (v := ?_) rfl rfl (by kernel_rfl) (by kernel_rfl) (by kernel_rfl) (fun _ _ _ h => h) (Or.inl ⟨by kernel_rfl, ?_⟩) hHeld ?_
                  rotate_left
                  · intro wz hSw; go_simp; try (with_reducible rfl)
                  try simp only [Act.put, List.setIfInBounds_toArray, List.set_cons_zero, List.set_cons_succ, List.getElem_toArray, List.getElem_cons_succ, List.getElem_cons_zero]
                  refine take_at (some 129) (i := 37) (v := ?_) rfl rfl (by kernel_rfl) (by kernel_rfl) (by kernel_rfl) (fun _ _ _ h => h) (Or.inl ⟨by kernel_rfl, ?_⟩) hHeld ?_
                  rotate_left
                  · intro wz hSw; go_simp; try (with_reducible rfl)
                  try simp only [Act.put, List.setIfInBounds_toArray, List.set_cons_zero, List.set_cons_succ, List.getElem_toArray, List.getElem_cons_succ, List.getElem_cons_zero]
                  refine take_at (some 130) (i := 38) (v := ?_) rfl rfl (by kernel_rfl) (by kernel_rfl) (by kernel_rfl) (fun _ _ _ h => h) (Or.inl ⟨by kernel_rfl, ?_⟩) hHeld ?_
                  rotate_left
                  · intro wz hSw; have g9 : wz.cell? ⟨tb2, 0, none⟩ = some (.bool true) := (HU9.out.on hSw).b.cell 0; go_simp; try (with_reducible rfl)
                  try simp only [Act.put, List.setIfInBounds_toArray, List.set_cons_zero, List.set_cons_succ, List.getElem_toArray, List.getElem_cons_succ, List.getElem_cons_zero]
                  refine take_at (some 131) (i := 39) (v := ?_) rfl rfl (by kernel_rfl) (by kernel_rfl) (by kernel_rfl) (fun _ _ _ h => h) (Or.inl ⟨by kernel_rfl, ?_⟩) hHeld ?_
                  rotate_left
                  · intro wz hSw; go_simp; try (with_reducible rfl)
                  try simp only [Act.put, List.setIfInBounds_toArray, List.set_cons_zero, List.set_cons_succ, List.getElem_toArray, List.getElem_cons_succ, List.getElem_cons_zero]
                  refine take_at (some 132) (i := 40) (v := ?_) rfl rfl (by kernel_rfl) (by kernel_rfl) (by kernel_rfl) (fun _ _ _ h => h) (Or.inl ⟨by kernel_rfl, ?_⟩) hHeld ?_
                  rotate_left
                  · intro wz hSw; go_simp; try (with_reducible rfl)
                  try simp only [Act.put, List.setIfInBounds_toArray, List.set_cons_zero, List.set_cons_succ, List.getElem_toArray, List.getElem_cons_succ, List.getElem_cons_zero]
                  refine take_at (some 133) (i := 41) (v := ?_) rfl rfl (by kernel_rfl) (by kernel_rfl) (by kernel_rfl) (fun _ _ _ h => h) (Or.inl ⟨by kernel_rfl, ?_⟩) hHeld ?_
                  rotate_left
                  · intro wz hSw; go_simp; try (with_reducible rfl)
                  try simp only [Act.put, List.setIfInBounds_toArray, List.set_cons_zero, List.set_cons_succ, List.getElem_toArray, List.getElem_cons_succ, List.getElem_cons_zero]
                  refine wpAnyH_ready (rs := [42]) (by kernel_rfl) (by simp) (AllReadyH.cons rfl (fun K hK => ?_) AllReadyH.nil)
                  rw [if_pos (by kernel_rfl)]
                  go_simp
                  refine (y_room (HZ9.out.on ((((Below.refl wr.heap.size wr).drew).trans (hy1.mono ((Below.refl wr.heap.size wr).drew).size)).trans (hy2.mono (((Below.refl wr.heap.size wr).drew).trans (hy1.mono ((Below.refl wr.heap.size wr).drew).size)).size))) HE2.out.1 hm6 0 0 (HA.out.2.2.2 rfl)).mono ?_
                  rintro e y5 ⟨rfl, hy5⟩
                  try dsimp only
                  refine hK.out _ _ (((((Below.refl wr.heap.size wr).drew).trans (hy1.mono ((Below.refl wr.heap.size wr).drew).size)).trans (hy2.mono (((Below.refl wr.heap.size wr).drew).trans (hy1.mono ((Below.refl wr.heap.size wr).drew).size)).size)).trans (hy5.mono ((((Below.refl wr.heap.size wr).drew).trans (hy1.mono ((Below.refl wr.heap.size wr).drew).size)).trans (hy2.mono (((Below.refl wr.heap.size wr).drew).trans (hy1.mono ((Below.refl wr.heap.size wr).drew).size)).size)).size)) (fun hHeld => ?_)
                  try simp only [Act.put, List.setIfInBounds_toArray, List.set_cons_zero, List.set_cons_succ, List.getElem_toArray, List.getElem_cons_succ, List.getElem_cons_zero]
                  refine take_at (some 135) (i := 43) (v := ?_) rfl rfl (by kernel_rfl) (by kernel_rfl) (by kernel_rfl) (fun _ _ _ h => h) (Or.inl ⟨by kernel_rfl, ?_⟩) hHeld ?_
                  rotate_left
                  · intro wz hSw; go_simp; try (with_reducible rfl)
                  try simp only [Act.put, List.setIfInBounds_toArray, List.set_cons_zero, List.set_cons_succ, List.getElem_toArray, List.getElem_cons_succ, List.getElem_cons_zero]
                  refine take_at (some 136) (i := 44) (v := ?_) rfl rfl (by kernel_rfl) (by kernel_rfl) (by kernel_rfl) (fun _ _ _ h => h) (Or.inl ⟨by kernel_rfl, ?_⟩) hHeld ?_
                  rotate_left
                  · intro wz hSw; go_simp; try (with_reducible rfl)
                  try simp only [Act.put, List.setIfInBounds_toArray, List.set_cons_zero, List.set_cons_succ, List.getElem_toArray, List.getElem_cons_succ, List.getElem_cons_zero]
                  refine take_at (some 137) (i := 45) (v := ?_) rfl rfl (by kernel_rfl) (by kernel_rfl) (by kernel_rfl) (fun _ _ _ h => h) (Or.inl ⟨by kernel_rfl, ?_⟩) hHeld ?_
                  rotate_left
                  · intro wz hSw; go_simp; try (with_reducible rfl)
                  try simp only [Act.put, List.setIfInBounds_toArray, List.set_cons_zero, List.set_cons_succ, List.getElem_toArray, List.getElem_cons_succ, List.getElem_cons_zero]
                  refine wpAnyH_done (by kernel_rfl) ?_ _
                  have hbb := (((((Below.refl wr.heap.size wr).drew).trans (hy1.mono ((Below.refl wr.heap.size wr).drew).size)).trans (hy2.mono (((Below.refl wr.heap.size wr).drew).trans (hy1.mono ((Below.refl wr.heap.size wr).drew).size)).size)).trans (hy5.mono ((((Below.refl wr.heap.size wr).drew).trans (hy1.mono ((Below.refl wr.heap.size wr).drew).size)).trans (hy2.mono (((Below.refl wr.heap.size wr).drew).trans (hy1.mono ((Below.refl wr.heap.size wr).drew).size)).size)).size))
                  have HZa := Lib.hid (HZ9.out.on hbb)
                  have HTa := Lib.hid (HT9.out.on hbb)
                  have HUa := Lib.hid (HU9.out.on hbb)
                  clear hbb hHeld
                  go_wp2_with fail
                  go_roundw
                  case rel => exact ⟨1, by omega, by first | rfl | go_num, HZa, HTa, HUa⟩
                  case measure => simp [intOf] <;> omega
              · obtain ⟨a1, ha1⟩ : ∃ a, p2.b.mv = a := ⟨_, rfl⟩
                obtain ⟨a2, ha2⟩ : ∃ a, p2.b.q.length = a := ⟨_, rfl⟩
                have hsum := HS2.out.b
                rw [ha1, ha2] at hsum
                have hle := (HE2.out.1.b).le
                rw [ha2] at hle
                have hJ : J1 ≤ 100000000 := HIB2.out.2
                have hwJ : IntKind.i64.wrap (a1 + (a2 : Int)) = (J1 : Int) := by rw [hsum, IntKind.wrap_i64]; omega
                obtain ⟨a3, ha3⟩ : ∃ a, M - a2 = a := ⟨_, rfl⟩
                have hwR : IntKind.i64.wrap ((M : Int) - (a2 : Int)) = (a3 : Int) := by rw [IntKind.wrap_i64]; omega
                have HA := Lib.hid (show mvP p2 0 = a1 ∧ wtP p2 0 = a2 ∧ (F1 = false → rmP M p2 1 = a3) ∧ (F1 = true → rmP M p2 1 = 0) from ⟨ha1, ha2, fun hh => ?_, fun hh => ?_⟩)
                rotate_left
                · have h1 := HS2.out.eb
                  rw [hh] at h1
                  show (if (p2.br || p2.b.en) = true then 0 else M - p2.b.q.length) = a3
                  rw [HS2.out.br, ← h1, ha2, ha3]
                  rfl
                · have h1 := HS2.out.eb
                  rw [hh] at h1
                  show (if (p2.br || p2.b.en) = true then 0 else M - p2.b.q.length) = 0
                  rw [HS2.out.br, ← h1]
                  rfl
                have n1 : ((J1 : Int) != (J1 : Int)) = false := by simp
                have n3 : ((a3 : Int) != (a3 : Int)) = false := by simp
                clear hsum hle hJ ha1 ha2 ha3
                have hw0 : IntKind.i64.wrap (1 - 0) = 1 := by decide
                have hw1 : IntKind.i64.wrap (1 - 1) = 0 := by decide
                have hw2 : IntKind.i64.wrap 1 = 1 := by decide
                have hw3 : IntKind.i64.wrap 0 = 0 := by decide
                have hk4 : (1 : Int) < 2 := by decide
                cases F1 with
                | false =>
                  go_upto_region 21 with fail
                  try simp only [List.cons_append, List.nil_append]
                  refine wp_region_held_drew (S := fun wz => Below wr.heap.size wr wz) (by kernel_rfl) ((Below.refl _ _).drew) (fun hHeld => ?_)
                  refine take_at (some 92) (i := 0) (v := ?_) rfl rfl (by kernel_rfl) (by kernel_rfl) (by kernel_rfl) (fun _ _ _ h => h) (Or.inl ⟨by kernel_rfl, ?_⟩) hHeld ?_
                  rotate_left
                  · intro wz hSw; go_simp; try (with_reducible rfl)
                  try simp only [Act.put, List.setIfInBounds_toArray, List.set_cons_zero, List.set_cons_succ, List.getElem_toArray, List.getElem_cons_succ, List.getElem_cons_zero]
                  refine take_at (some 93) (i := 1) (v := ?_) rfl rfl (by kernel_rfl) (by kernel_rfl) (by kernel_rfl) (fun _ _ _ h => h) (Or.inl ⟨by kernel_rfl, ?_⟩) hHeld ?_
                  rotate_left
                  · intro wz hSw; go_simp; try (with_reducible rfl)
                  try simp only [Act.put, List.setIfInBounds_toArray, List.set_cons_zero, List.set_cons_succ, List.getElem_toArray, List.getElem_cons_succ, List.getElem_cons_zero]
                  refine take_at (some 94) (i := 2) (v := ?_) rfl rfl (by kernel_rfl) (by kernel_rfl) (by kernel_rfl) (fun _ _ _ h => h) (Or.inl ⟨by kernel_rfl, ?_⟩) hHeld ?_
                  rotate_left
                  · intro wz hSw; go_simp; try (with_reducible rfl)
                  try simp only [Act.put, List.setIfInBounds_toArray, List.set_cons_zero, List.set_cons_succ, List.getElem_toArray, List.getElem_cons_succ, List.getElem_cons_zero]
                  refine take_at (some 96) (i := 4) (v := ?_) rfl rfl (by kernel_rfl) (by kernel_rfl) (by kernel_rfl) (fun _ _ _ h => h) (Or.inl ⟨by kernel_rfl, ?_⟩) hHeld ?_
                  rotate_left
                  · intro wz hSw; go_simp; try (with_reducible rfl)
                  try simp only [Act.put, List.setIfInBounds_toArray, List.set_cons_zero, List.set_cons_succ, List.getElem_toArray, List.getElem_cons_succ, List.getElem_cons_zero]
                  refine take_at (some 97) (i := 5) (v := ?_) rfl rfl (by kernel_rfl) (by kernel_rfl) (by kernel_rfl) (fun _ _ _ h => h) (Or.inl ⟨by kernel_rfl, ?_⟩) hHeld ?_
                  rotate_left
                  · intro wz hSw; go_simp; try (with_reducible rfl)
                  try simp only [Act.put, List.setIfInBounds_toArray, List.set_cons_zero, List.set_cons_succ, List.getElem_toArray, List.getElem_cons_succ, List.getElem_cons_zero]
                  refine take_at (some 98) (i := 6) (v := ?_) rfl rfl (by kernel_rfl) (by kernel_rfl) (by kernel_rfl) (fun _ _ _ h => h) (Or.inl ⟨by kernel_rfl, ?_⟩) hHeld ?_
                  rotate_left
                  · intro wz hSw; go_simp; try (with_reducible rfl)
                  try simp only [Act.put, List.setIfInBounds_toArray, List.set_cons_zero, List.set_cons_succ, List.getElem_toArray, List.getElem_cons_succ, List.getElem_cons_zero]
                  refine take_at (some 101) (i := 9) (v := ?_) rfl rfl (by kernel_rfl) (by kernel_rfl) (by kernel_rfl) (fun _ _ _ h => h) (Or.inl ⟨by kernel_rfl, ?_⟩) hHeld ?_
                  rotate_left
                  · intro wz hSw; go_simp; try (with_reducible rfl)
                  try simp only [Act.put, List.setIfInBounds_toArray, List.set_cons_zero, List.set_cons_succ, List.getElem_toArray, List.getElem_cons_succ, List.getElem_cons_zero]
                  refine take_at (some 102) (i := 10) (v := ?_) rfl rfl (by kernel_rfl) (by kernel_rfl) (by kernel_rfl) (fun _ _ _ h => h) (Or.inl ⟨by kernel_rfl, ?_⟩) hHeld ?_
                  rotate_left
                  · intro wz hSw; go_simp; try (with_reducible rfl)
                  try simp only [Act.put, List.setIfInBounds_toArray, List.set_cons_zero, List.set_cons_succ, List.getElem_toArray, List.getElem_cons_succ, List.getElem_cons_zero]
                  refine take_at (some 103) (i := 11) (v := ?_) rfl rfl (by kernel_rfl) (by kernel_rfl) (by kernel_rfl) (fun _ _ _ h => h) (Or.inl ⟨by kernel_rfl, ?_⟩) hHeld ?_
                  rotate_left
                  · intro wz hSw; go_simp; try (with_reducible rfl)
                  try simp only [Act.put, List.setIfInBounds_toArray, List.set_cons_zero, List.set_cons_succ, List.getElem_toArray, List.getElem_cons_succ, List.getElem_cons_zero]
                  refine take_at (some 104) (i := 12) (v := ?_) rfl rfl (by kernel_rfl) (by kernel_rfl) (by kernel_rfl) (fun _ _ _ h => h) (Or.inl ⟨by kernel_rfl, ?_⟩) hHeld ?_
                  rotate_left
                  · intro wz hSw; have d9 : wz.cell? ⟨tb1, 1, none⟩ = some (.int .i64 (J1 : Int)) := (HT9.out.on hSw).b.cell 1; go_simp; try (with_reducible rfl)
                  try simp only [Act.put, List.setIfInBounds_toArray, List.set_cons_zero, List.set_cons_succ, List.getElem_toArray, List.getElem_cons_succ, List.getElem_cons_zero]
                  refine wpAnyH_ready (rs := [3]) (by kernel_rfl) (by simp) (AllReadyH.cons rfl (fun K hK => ?_) AllReadyH.nil)
                  rw [if_pos (by kernel_rfl)]
                  go_simp
                  refine (y_moved (HZ9.out.on ((Below.refl wr.heap.size wr).drew)) 0 a1 HA.out.1).mono ?_
                  rintro e y1 ⟨rfl, hy1⟩
                  try dsimp only
                  refine hK.out _ _ (((Below.refl wr.heap.size wr).drew).trans (hy1.mono ((Below.refl wr.heap.size wr).drew).size)) (fun hHeld => ?_)
                  try simp only [Act.put, List.setIfInBounds_toArray, List.set_cons_zero, List.set_cons_succ, List.getElem_toArray, List.getElem_cons_succ, List.getElem_cons_zero]
                  refine wpAnyH_ready (rs := [7]) (by kernel_rfl) (by simp) (AllReadyH.cons rfl (fun K hK => ?_) AllReadyH.nil)
                  rw [if_pos (by kernel_rfl)]
                  go_simp
                  refine (y_waits (HZ9.out.on (((Below.refl wr.heap.size wr).drew).trans (hy1.mono ((Below.refl wr.heap.size wr).drew).size))) HE2.out.1 hm6 0 a2 HA.out.2.1).mono ?_
                  rintro e y2 ⟨rfl, hy2⟩
                  try dsimp only
                  refine hK.out _ _ ((((Below.refl wr.heap.size wr).drew).trans (hy1.mono ((Below.refl wr.heap.size wr).drew).size)).trans (hy2.mono (((Below.refl wr.heap.size wr).drew).trans (hy1.mono ((Below.refl wr.heap.size wr).drew).size)).size)) (fun hHeld => ?_)
                  try simp only [Act.put, List.setIfInBounds_toArray, List.set_cons_zero, List.set_cons_succ, List.getElem_toArray, List.getElem_cons_succ, List.getElem_cons_zero]
                  refine take_at (some 100) (i := 8) (v := ?_) rfl rfl (by kernel_rfl) (by kernel_rfl) (by kernel_rfl) (fun _ _ _ h => h) (Or.inl ⟨by kernel_rfl, ?_⟩) hHeld ?_
                  rotate_left
                  · intro wz hSw; go_simp; try (with_reducible rfl)
                  try simp only [Act.put, List.setIfInBounds_toArray, List.set_cons_zero, List.set_cons_succ, List.getElem_toArray, List.getElem_cons_succ, List.getElem_cons_zero]
                  refine take_at (some 105) (i := 13) (v := ?_) rfl rfl (by kernel_rfl) (by kernel_rfl) (by kernel_rfl) (fun _ _ _ h => h) (Or.inl ⟨by kernel_rfl, ?_⟩) hHeld ?_
                  rotate_left
                  · intro wz hSw; go_simp; try (with_reducible rfl)
                  try simp only [Act.put, List.setIfInBounds_toArray, List.set_cons_zero, List.set_cons_succ, List.getElem_toArray, List.getElem_cons_succ, List.getElem_cons_zero]
                  refine take_at (some 106) (i := 14) (v := ?_) rfl rfl (by kernel_rfl) (by kernel_rfl) (by kernel_rfl) (fun _ _ _ h => h) (Or.inl ⟨by kernel_rfl, ?_⟩) hHeld ?_
                  rotate_left
                  · intro wz hSw; go_simp; try (with_reducible rfl)
                  try simp only [Act.put, List.setIfInBounds_toArray, List.set_cons_zero, List.set_cons_succ, List.getElem_toArray, List.getElem_cons_succ, List.getElem_cons_zero]
                  refine take_at (some 107) (i := 15) (v := ?_) rfl rfl (by kernel_rfl) (by kernel_rfl) (by kernel_rfl) (fun _ _ _ h => h) (Or.inl ⟨by kernel_rfl, ?_⟩) hHeld ?_
                  rotate_left
                  · intro wz hSw; go_simp; try (with_reducible rfl)
                  try simp only [Act.put, List.setIfInBounds_toArray, List.set_cons_zero, List.set_cons_succ, List.getElem_toArray, List.getElem_cons_succ, List.getElem_cons_zero]
                  refine take_at (some 108) (i := 16) (v := ?_) rfl rfl (by kernel_rfl) (by kernel_rfl) (by kernel_rfl) (fun _ _ _ h => h) (Or.inl ⟨by kernel_rfl, ?_⟩) hHeld ?_
                  rotate_left
                  · intro wz hSw; go_simp; try (with_reducible rfl)
                  try simp only [Act.put, List.setIfInBounds_toArray, List.set_cons_zero, List.set_cons_succ, List.getElem_toArray, List.getElem_cons_succ, List.getElem_cons_zero]
                  refine take_at (some 109) (i := 17) (v := ?_) rfl rfl (by kernel_rfl) (by kernel_rfl) (by kernel_rfl) (fun _ _ _ h => h) (Or.inl ⟨by kernel_rfl, ?_⟩) hHeld ?_
                  rotate_left
                  · intro wz hSw; go_simp; try (with_reducible rfl)
                  try simp only [Act.put, List.setIfInBounds_toArray, List.set_cons_zero, List.set_cons_succ, List.getElem_toArray, List.getElem_cons_succ, List.getElem_cons_zero]
                  refine take_at (some 110) (i := 18) (v := ?_) rfl rfl (by kernel_rfl) (by kernel_rfl) (by kernel_rfl) (fun _ _ _ h => h) (Or.inl ⟨by kernel_rfl, ?_⟩) hHeld ?_
                  rotate_left
                  · intro wz hSw; have g9 : wz.cell? ⟨tb2, 1, none⟩ = some (.bool false) := (HU9.out.on hSw).b.cell 1; go_simp; try (with_reducible rfl)
                  try simp only [Act.put, List.setIfInBounds_toArray, List.set_cons_zero, List.set_cons_succ, List.getElem_toArray, List.getElem_cons_succ, List.getElem_cons_zero]
                  refine take_at (some 111) (i := 19) (v := ?_) rfl rfl (by kernel_rfl) (by kernel_rfl) (by kernel_rfl) (fun _ _ _ h => h) (Or.inl ⟨by kernel_rfl, ?_⟩) hHeld ?_
                  rotate_left
                  · intro wz hSw; go_simp; try (with_reducible rfl)
                  try simp only [Act.put, List.setIfInBounds_toArray, List.set_cons_zero, List.set_cons_succ, List.getElem_toArray, List.getElem_cons_succ, List.getElem_cons_zero]
                  refine take_at (some 112) (i := 20) (v := ?_) rfl rfl (by kernel_rfl) (by kernel_rfl) (by kernel_rfl) (fun _ _ _ h => h) (Or.inl ⟨by kernel_rfl, ?_⟩) hHeld ?_
                  rotate_left
                  · intro wz hSw; go_simp; try (with_reducible rfl)
                  try simp only [Act.put, List.setIfInBounds_toArray, List.set_cons_zero, List.set_cons_succ, List.getElem_toArray, List.getElem_cons_succ, List.getElem_cons_zero]
                  refine take_at (some 113) (i := 21) (v := ?_) rfl rfl (by kernel_rfl) (by kernel_rfl) (by kernel_rfl) (fun _ _ _ h => h) (Or.inl ⟨by kernel_rfl, ?_⟩) hHeld ?_
                  rotate_left
                  · intro wz hSw; go_simp; try (with_reducible rfl)
                  try simp only [Act.put, List.setIfInBounds_toArray, List.set_cons_zero, List.set_cons_succ, List.getElem_toArray, List.getElem_cons_succ, List.getElem_cons_zero]
                  refine take_at (some 114) (i := 22) (v := ?_) rfl rfl (by kernel_rfl) (by kernel_rfl) (by kernel_rfl) (fun _ _ _ h => h) (Or.inl ⟨by kernel_rfl, ?_⟩) hHeld ?_
                  rotate_left
                  · intro wz hSw; go_simp; try (with_reducible rfl)
                  try simp only [Act.put, List.setIfInBounds_toArray, List.set_cons_zero, List.set_cons_succ, List.getElem_toArray, List.getElem_cons_succ, List.getElem_cons_zero]
                  refine take_at (some 116) (i := 24) (v := ?_) rfl rfl (by kernel_rfl) (by kernel_rfl) (by kernel_rfl) (fun _ _ _ h => h) (Or.inl ⟨by kernel_rfl, ?_⟩) hHeld ?_
                  rotate_left
                  · intro wz hSw; go_simp; try (with_reducible rfl)
                  try simp only [Act.put, List.setIfInBounds_toArray, List.set_cons_zero, List.set_cons_succ, List.getElem_toArray, List.getElem_cons_succ, List.getElem_cons_zero]
                  refine take_at (some 117) (i := 25) (v := ?_) rfl rfl (by kernel_rfl) (by kernel_rfl) (by kernel_rfl) (fun _ _ _ h => h) (Or.inl ⟨by kernel_rfl, ?_⟩) hHeld ?_
                  rotate_left
                  · intro wz hSw; go_simp; try (with_reducible rfl)
                  try simp only [Act.put, List.setIfInBounds_toArray, List.set_cons_zero, List.set_cons_succ, List.getElem_toArray, List.getElem_cons_succ, List.getElem_cons_zero]
                  refine take_at (some 118) (i := 26) (v := ?_) rfl rfl (by kernel_rfl) (by kernel_rfl) (by kernel_rfl) (fun _ _ _ h => h) (Or.inl ⟨by kernel_rfl, ?_⟩) hHeld ?_
                  rotate_left
                  · intro wz hSw; go_simp; try (with_reducible rfl)
                  try simp only [Act.put, List.setIfInBounds_toArray, List.set_cons_zero, List.set_cons_succ, List.getElem_toArray, List.getElem_cons_succ, List.getElem_cons_zero]
                  refine take_at (some 119) (i := 27) (v := ?_) rfl rfl (by kernel_rfl) (by kernel_rfl) (by kernel_rfl) (fun _ _ _ h => h) (Or.inl ⟨by kernel_rfl, ?_⟩) hHeld ?_
                  rotate_left
                  · intro wz hSw; go_simp; try (with_reducible rfl)
                  try simp only [Act.put, List.setIfInBounds_toArray, List.set_cons_zero, List.set_cons_succ, List.getElem_toArray, List.getElem_cons_succ, List.getElem_cons_zero]
                  refine take_at (some 120) (i := 28) (v := ?_) rfl rfl (by kernel_rfl) (by kernel_rfl) (by kernel_rfl) (fun _ _ _ h => h) (Or.inl ⟨by kernel_rfl, ?_⟩) hHeld ?_
                  rotate_left
                  · intro wz hSw; go_simp; try (with_reducible rfl)
                  try simp only [Act.put, List.setIfInBounds_toArray, List.set_cons_zero, List.set_cons_succ, List.getElem_toArray, List.getElem_cons_succ, List.getElem_cons_zero]
                  refine wpAnyH_ready (rs := [23]) (by kernel_rfl) (by simp) (AllReadyH.cons rfl (fun K hK => ?_) AllReadyH.nil)
                  rw [if_pos (by kernel_rfl)]
                  go_simp
                  refine (y_room (HZ9.out.on ((((Below.refl wr.heap.size wr).drew).trans (hy1.mono ((Below.refl wr.heap.size wr).drew).size)).trans (hy2.mono (((Below.refl wr.heap.size wr).drew).trans (hy1.mono ((Below.refl wr.heap.size wr).drew).size)).size))) HE2.out.1 hm6 1 a3 (HA.out.2.2.1 rfl)).mono ?_
                  rintro e y3 ⟨rfl, hy3⟩
                  try dsimp only
                  refine hK.out _ _ (((((Below.refl wr.heap.size wr).drew).trans (hy1.mono ((Below.refl wr.heap.size wr).drew).size)).trans (hy2.mono (((Below.refl wr.heap.size wr).drew).trans (hy1.mono ((Below.refl wr.heap.size wr).drew).size)).size)).trans (hy3.mono ((((Below.refl wr.heap.size wr).drew).trans (hy1.mono ((Below.refl wr.heap.size wr).drew).size)).trans (hy2.mono (((Below.refl wr.heap.size wr).drew).trans (hy1.mono ((Below.refl wr.heap.size wr).drew).size)).size)).size)) (fun hHeld => ?_)
                  try simp only [Act.put, List.setIfInBounds_toArray, List.set_cons_zero, List.set_cons_succ, List.getElem_toArray, List.getElem_cons_succ, List.getElem_cons_zero]
                  refine wpAnyH_ready (rs := [29]) (by kernel_rfl) (by simp) (AllReadyH.cons rfl (fun K hK => ?_) AllReadyH.nil)
                  rw [if_pos (by kernel_rfl)]
                  go_simp
                  refine (y_waits (HZ9.out.on (((((Below.refl wr.heap.size wr).drew).trans (hy1.mono ((Below.refl wr.heap.size wr).drew).size)).trans (hy2.mono (((Below.refl wr.heap.size wr).drew).trans (hy1.mono ((Below.refl wr.heap.size wr).drew).size)).size)).trans (hy3.mono ((((Below.refl wr.heap.size wr).drew).trans (hy1.mono ((Below.refl wr.heap.size wr).drew).size)).trans (hy2.mono (((Below.refl wr.heap.size wr).drew).trans (hy1.mono ((Below.refl wr.heap.size wr).drew).size)).size)).size))) HE2.out.1 hm6 0 a2 HA.out.2.1).mono ?_
                  rintro e y4 ⟨rfl, hy4⟩
                  try dsimp only
                  refine hK.out _ _ ((((((Below.refl wr.heap.size wr).drew).trans (hy1.mono ((Below.refl wr.heap.size wr).drew).size)).trans (hy2.mono (((Below.refl wr.heap.size wr).drew).trans (hy1.mono ((Below.refl wr.heap.size wr).drew).size)).size)).trans (hy3.mono ((((Below.refl wr.heap.size wr).drew).trans (hy1.mono ((Below.refl wr.heap.size wr).drew).size)).trans (hy2.mono (((Below.refl wr.heap.size wr).drew).trans (hy1.mono ((Below.refl wr.heap.size wr).drew).size)).size)).size)).trans (hy4.mono (((((Below.refl wr.heap.size wr).drew).trans (hy1.mono ((Below.refl wr.heap.size wr).drew).size)).trans (hy2.mono (((Below.refl wr.heap.size wr).drew).trans (hy1.mono ((Below.refl wr.heap.size wr).drew).size)).size)).trans (hy3.mono ((((Below.refl wr.heap.size wr).drew).trans (hy1.mono ((Below.refl wr.heap.size wr).drew).size)).trans (hy2.mono (((Below.refl wr.heap.size wr).drew).trans (hy1.mono ((Below.refl wr.heap.size wr).drew).size)).size)).size)).size)) (fun hHeld => ?_)
                  try simp only [Act.put, List.setIfInBounds_toArray, List.set_cons_zero, List.set_cons_succ, List.getElem_toArray, List.getElem_cons_succ, List.getElem_cons_zero]
                  refine take_at (some 122) (i := 30) (v := ?_) rfl rfl (by kernel_rfl) (by kernel_rfl) (by kernel_rfl) (fun _ _ _ h => h) (Or.inl ⟨by kernel_rfl, ?_⟩) hHeld ?_
                  rotate_left
                  · intro wz hSw; go_simp; try (with_reducible rfl)
                  try simp only [Act.put, List.setIfInBounds_toArray, List.set_cons_zero, List.set_cons_succ, List.getElem_toArray, List.getElem_cons_succ, List.getElem_cons_zero]
                  refine take_at (some 123) (i := 31) (v := ?_) rfl rfl (by kernel_rfl) (by kernel_rfl) (by kernel_rfl) (fun _ _ _ h => h) (Or.inl ⟨by kernel_rfl, ?_⟩) hHeld ?_
                  rotate_left
                  · intro wz hSw; go_simp; try (with_reducible rfl)
                  try simp only [Act.put, List.setIfInBounds_toArray, List.set_cons_zero, List.set_cons_succ, List.getElem_toArray, List.getElem_cons_succ, List.getElem_cons_zero]
                  refine take_at (some 124) (i := 32) (v := ?_) rfl rfl (by kernel_rfl) (by kernel_rfl) (by kernel_rfl) (fun _ _ _ h => h) (Or.inl ⟨by kernel_rfl, ?_⟩) hHeld ?_
                  rotate_left
                  · intro wz hSw; go_simp; try (with_reducible rfl)
                  try simp only [Act.put, List.setIfInBounds_toArray, List.set_cons_zero, List.set_cons_succ, List.getElem_toArray, List.getElem_cons_succ, List.getElem_cons_zero]
                  refine take_at (some 125) (i := 33) (v := ?_) rfl rfl (by kernel_rfl) (by kernel_rfl) (by kernel_rfl) (fun _ _ _ h => h) (Or.inl ⟨by kernel_rfl, ?_⟩) hHeld ?_
                  rotate_left
                  · intro wz hSw; go_simp; try (with_reducible rfl)
                  try simp only [Act.put, List.setIfInBounds_toArray, List.set_cons_zero, List.set_cons_succ, List.getElem_toArray, List.getElem_cons_succ, List.getElem_cons_zero]
                  refine take_at (some 126) (i := 34) (v := ?_) rfl rfl (by kernel_rfl) (by kernel_rfl) (by kernel_rfl) (fun _ _ _ h => h) (Or.inl ⟨by kernel_rfl, ?_⟩) hHeld ?_
                  rotate_left
                  · intro wz hSw; go_simp; try (with_reducible rfl)
                  try simp only [Act.put, List.setIfInBounds_toArray, List.set_cons_zero, List.set_cons_succ, List.getElem_toArray, List.getElem_cons_succ, List.getElem_cons_zero]
                  refine take_at (some 127) (i := 35) (v := ?_) rfl rfl (by kernel_rfl) (by kernel_rfl) (by kernel_rfl) (fun _ _ _ h => h) (Or.inl ⟨by kernel_rfl, ?_⟩) hHeld ?_
                  rotate_left
                  · intro wz hSw; go_simp; try (with_reducible rfl)
                  try simp only [Act.put, List.setIfInBounds_toArray, List.set_cons_zero, List.set_cons_succ, List.getElem_toArray, List.getElem_cons_succ, List.getElem_cons_zero]
                  refine take_at (some 128) (i := 36) (v := ?_) rfl rfl (by kernel_rfl) (by kernel_rfl) (by kernel_rfl) (fun _ _ _ h => h) (Or.inl ⟨by kernel_rfl, ?_⟩) hHeld ?_
                  rotate_left
                  · intro wz hSw; go_simp; try (with_reducible rfl)
                  try simp only [Act.put, List.setIfInBounds_toArray, List.set_cons_zero, List.set_cons_succ, List.getElem_toArray, List.getElem_cons_succ, List.getElem_cons_zero]
                  refine take_at (some 129) (i := 37) (v := ?_) rfl rfl (by kernel_rfl) (by kernel_rfl) (by kernel_rfl) (fun _ _ _ h => h) (Or.inl ⟨by kernel_rfl, ?_⟩) hHeld ?_
                  rotate_left
                  · intro wz hSw; go_simp; try (with_reducible rfl)
                  try simp only [Act.put, List.setIfInBounds_toArray, List.set_cons_zero, List.set_cons_succ, List.getElem_toArray, List.getElem_cons_succ, List.getElem_cons_zero]
                  refine take_at (some 130) (i := 38) (v := ?_) rfl rfl (by kernel_rfl) (by kernel_rfl) (by kernel_rfl) (fun _ _ _ h => h) (Or.inl ⟨by kernel_rfl, ?_⟩) hHeld ?_
                  rotate_left
                  · intro wz hSw; have g9 : wz.cell? ⟨tb2, 1, none⟩ = some (.bool false) := (HU9.out.on hSw).b.cell 1; go_simp; try (with_reducible rfl)
                  try simp only [Act.put, List.setIfInBounds_toArray, List.set_cons_zero, List.set_cons_succ, List.getElem_toArray, List.getElem_cons_succ, List.getElem_cons_zero]
                  refine take_at (some 131) (i := 39) (v := ?_) rfl rfl (by kernel_rfl) (by kernel_rfl) (by kernel_rfl) (fun _ _ _ h => h) (Or.inl ⟨by kernel_rfl, ?_⟩) hHeld ?_
                  rotate_left
                  · intro wz hSw; go_simp; try (with_reducible rfl)
                  try simp only [Act.put, List.setIfInBounds_toArray, List.set_cons_zero, List.set_cons_succ, List.getElem_toArray, List.getElem_cons_succ, List.getElem_cons_zero]
                  refine take_at (some 132) (i := 40) (v := undef) rfl rfl (by kernel_rfl) (by kernel_rfl) (by kernel_rfl) (fun _ _ _ h => h) (Or.inr ⟨by kernel_rfl, rfl⟩) hHeld ?_
                  try simp only [Act.put, List.setIfInBounds_toArray, List.set_cons_zero, List.set_cons_succ, List.getElem_toArray, List.getElem_cons_succ, List.getElem_cons_zero]
                  refine take_at (some 133) (i := 41) (v := undef) rfl rfl (by kernel_rfl) (by kernel_rfl) (by kernel_rfl) (fun _ _ _ h => h) (Or.inr ⟨by kernel_rfl, rfl⟩) hHeld ?_
                  try simp only [Act.put, List.setIfInBounds_toArray, List.set_cons_zero, List.set_cons_succ, List.getElem_toArray, List.getElem_cons_succ, List.getElem_cons_zero]
                  refine take_at (some 134) (i := 42) (v := undef) rfl rfl (by kernel_rfl) (by kernel_rfl) (by kernel_rfl) (fun _ _ _ h => h) (Or.inr ⟨by kernel_rfl, rfl⟩) hHeld ?_
                  try simp only [Act.put, List.setIfInBounds_toArray, List.set_cons_zero, List.set_cons_succ, List.getElem_toArray, List.getElem_cons_succ, List.getElem_cons_zero]
                  refine take_at (some 135) (i := 43) (v := undef) rfl rfl (by kernel_rfl) (by kernel_rfl) (by kernel_rfl) (fun _ _ _ h => h) (Or.inr ⟨by kernel_rfl, rfl⟩) hHeld ?_
                  try simp only [Act.put, List.setIfInBounds_toArray, List.set_cons_zero, List.set_cons_succ, List.getElem_toArray, List.getElem_cons_succ, List.getElem_cons_zero]
                  refine take_at (some 136) (i := 44) (v := ?_) rfl rfl (by kernel_rfl) (by kernel_rfl) (by kernel_rfl) (fun _ _ _ h => h) (Or.inl ⟨by kernel_rfl, ?_⟩) hHeld ?_
                  rotate_left
                  · intro wz hSw; go_simp; try (with_reducible rfl)
                  try simp only [Act.put, List.setIfInBounds_toArray, List.set_cons_zero, List.set_cons_succ, List.getElem_toArray, List.getElem_cons_succ, List.getElem_cons_zero]
                  refine take_at (some 137) (i := 45) (v := ?_) rfl rfl (by kernel_rfl) (by kernel_rfl) (by kernel_rfl) (fun _ _ _ h => h) (Or.inl ⟨by kernel_rfl, ?_⟩) hHeld ?_
                  rotate_left
                  · intro wz hSw; go_simp; try (with_reducible rfl)
                  try simp only [Act.put, List.setIfInBounds_toArray, List.set_cons_zero, List.set_cons_succ, List.getElem_toArray, List.getElem_cons_succ, List.getElem_cons_zero]
                  refine wpAnyH_done (by kernel_rfl) ?_ _
                  have hbb := ((((((Below.refl wr.heap.size wr).drew).trans (hy1.mono ((Below.refl wr.heap.size wr).drew).size)).trans (hy2.mono (((Below.refl wr.heap.size wr).drew).trans (hy1.mono ((Below.refl wr.heap.size wr).drew).size)).size)).trans (hy3.mono ((((Below.refl wr.heap.size wr).drew).trans (hy1.mono ((Below.refl wr.heap.size wr).drew).size)).trans (hy2.mono (((Below.refl wr.heap.size wr).drew).trans (hy1.mono ((Below.refl wr.heap.size wr).drew).size)).size)).size)).trans (hy4.mono (((((Below.refl wr.heap.size wr).drew).trans (hy1.mono ((Below.refl wr.heap.size wr).drew).size)).trans (hy2.mono (((Below.refl wr.heap.size wr).drew).trans (hy1.mono ((Below.refl wr.heap.size wr).drew).size)).size)).trans (hy3.mono ((((Below.refl wr.heap.size wr).drew).trans (hy1.mono ((Below.refl wr.heap.size wr).drew).size)).trans (hy2.mono (((Below.refl wr.heap.size wr).drew).trans (hy1.mono ((Below.refl wr.heap.size wr).drew).size)).size)).size)).size))
                  have HZa := Lib.hid (HZ9.out.on hbb)
                  have HTa := Lib.hid (HT9.out.on hbb)
                  have HUa := Lib.hid (HU9.out.on hbb)
                  clear hbb hHeld
                  go_wp2_with fail
                  go_roundw
                  case rel => exact ⟨2, by omega, by first | rfl | go_num, HZa, HTa, HUa⟩
                  case measure => simp [intOf] <;> omega
                | true =>
                  go_upto_region 21 with fail
                  try simp only [List.cons_append, List.nil_append]
                  refine wp_region_held_drew (S := fun wz => Below wr.heap.size wr wz) (by kernel_rfl) ((Below.refl _ _).drew) (fun hHeld => ?_)
                  refine take_at (some 92) (i := 0) (v := ?_) rfl rfl (by kernel_rfl) (by kernel_rfl) (by kernel_rfl) (fun _ _ _ h => h) (Or.inl ⟨by kernel_rfl, ?_⟩) hHeld ?_
                  rotate_left
                  · intro wz hSw; go_simp; try (with_reducible rfl)
                  try simp only [Act.put, List.setIfInBounds_toArray, List.set_cons_zero, List.set_cons_succ, List.getElem_toArray, List.getElem_cons_succ, List.getElem_cons_zero]
                  refine take_at (some 93) (i := 1) (v := ?_) rfl rfl (by kernel_rfl) (by kernel_rfl) (by kernel_rfl) (fun _ _ _ h => h) (Or.inl ⟨by kernel_rfl, ?_⟩) hHeld ?_
                  rotate_left
                  · intro wz hSw; go_simp; try (with_reducible rfl)
                  try simp only [Act.put, List.setIfInBounds_toArray, List.set_cons_zero, List.set_cons_succ, List.getElem_toArray, List.getElem_cons_succ, List.getElem_cons_zero]
                  refine take_at (some 94) (i := 2) (v := ?_) rfl rfl (by kernel_rfl) (by kernel_rfl) (by kernel_rfl) (fun _ _ _ h => h) (Or.inl ⟨by kernel_rfl, ?_⟩) hHeld ?_
                  rotate_left
                  · intro wz hSw; go_simp; try (with_reducible rfl)
                  try simp only [Act.put, List.setIfInBounds_toArray, List.set_cons_zero, List.set_cons_succ, List.getElem_toArray, List.getElem_cons_succ, List.getElem_cons_zero]
                  refine take_at (some 96) (i := 4) (v := ?_) rfl rfl (by kernel_rfl) (by kernel_rfl) (by kernel_rfl) (fun _ _ _ h => h) (Or.inl ⟨by kernel_rfl, ?_⟩) hHeld ?_
                  rotate_left
                  · intro wz hSw; go_simp; try (with_reducible rfl)
                  try simp only [Act.put, List.setIfInBounds_toArray, List.set_cons_zero, List.set_cons_succ, List.getElem_toArray, List.getElem_cons_succ, List.getElem_cons_zero]
                  refine take_at (some 97) (i := 5) (v := ?_) rfl rfl (by kernel_rfl) (by kernel_rfl) (by kernel_rfl) (fun _ _ _ h => h) (Or.inl ⟨by kernel_rfl, ?_⟩) hHeld ?_
                  rotate_left
                  · intro wz hSw; go_simp; try (with_reducible rfl)
                  try simp only [Act.put, List.setIfInBounds_toArray, List.set_cons_zero, List.set_cons_succ, List.getElem_toArray, List.getElem_cons_succ, List.getElem_cons_zero]
                  refine take_at (some 98) (i := 6) (v := ?_) rfl rfl (by kernel_rfl) (by kernel_rfl) (by kernel_rfl) (fun _ _ _ h => h) (Or.inl ⟨by kernel_rfl, ?_⟩) hHeld ?_
                  rotate_left
                  · intro wz hSw; go_simp; try (with_reducible rfl)
                  try simp only [Act.put, List.setIfInBounds_toArray, List.set_cons_zero, List.set_cons_succ, List.getElem_toArray, List.getElem_cons_succ, List.getElem_cons_zero]
                  refine take_at (some 101) (i := 9) (v := ?_) rfl rfl (by kernel_rfl) (by kernel_rfl) (by kernel_rfl) (fun _ _ _ h => h) (Or.inl ⟨by kernel_rfl, ?_⟩) hHeld ?_
                  rotate_left
                  · intro wz hSw; go_simp; try (with_reducible rfl)
                  try simp only [Act.put, List.setIfInBounds_toArray, List.set_cons_zero, List.set_cons_succ, List.getElem_toArray, List.getElem_cons_succ, List.getElem_cons_zero]
                  refine take_at (some 102) (i := 10) (v := ?_) rfl rfl (by kernel_rfl) (by kernel_rfl) (by kernel_rfl) (fun _ _ _ h => h) (Or.inl ⟨by kernel_rfl, ?_⟩) hHeld ?_
                  rotate_left
                  · intro wz hSw; go_simp; try (with_reducible rfl)
                  try simp only [Act.put, List.setIfInBounds_toArray, List.set_cons_zero, List.set_cons_succ, List.getElem_toArray, List.getElem_cons_succ, List.getElem_cons_zero]
                  refine take_at (some 103) (i := 11) (v := ?_) rfl rfl (by kernel_rfl) (by kernel_rfl) (by kernel_rfl) (fun _ _ _ h => h) (Or.inl ⟨by kernel_rfl, ?_⟩) hHeld ?_
                  rotate_left
                  · intro wz hSw; go_simp; try (with_reducible rfl)
                  try simp only [Act.put, List.setIfInBounds_toArray, List.set_cons_zero, List.set_cons_succ, List.getElem_toArray, List.getElem_cons_succ, List.getElem_cons_zero]
                  refine take_at (some 104) (i := 12) (v := ?_) rfl rfl (by kernel_rfl) (by kernel_rfl) (by kernel_rfl) (fun _ _ _ h => h) (Or.inl ⟨by kernel_rfl, ?_⟩) hHeld ?_
                  rotate_left
                  · intro wz hSw; have d9 : wz.cell? ⟨tb1, 1, none⟩ = some (.int .i64 (J1 : Int)) := (HT9.out.on hSw).b.cell 1; go_simp; try (with_reducible rfl)
                  try simp only [Act.put, List.setIfInBounds_toArray, List.set_cons_zero, List.set_cons_succ, List.getElem_toArray, List.getElem_cons_succ, List.getElem_cons_zero]
                  refine wpAnyH_ready (rs := [3]) (by kernel_rfl) (by simp) (AllReadyH.cons rfl (fun K hK => ?_) AllReadyH.nil)
                  rw [if_pos (by kernel_rfl)]
                  go_simp
                  refine (y_moved (HZ9.out.on ((Below.refl wr.heap.size wr).drew)) 0 a1 HA.out.1).mono ?_
                  rintro e y1 ⟨rfl, hy1⟩
                  try dsimp only
                  refine hK.out _ _ (((Below.refl wr.heap.size wr).drew).trans (hy1.mono ((Below.refl wr.heap.size wr).drew).size)) (fun hHeld => ?_)
                  try simp only [Act.put, List.setIfInBounds_toArray, List.set_cons_zero, List.set_cons_succ, List.getElem_toArray, List.getElem_cons_succ, List.getElem_cons_zero]
                  refine wpAnyH_ready (rs := [7]) (by kernel_rfl) (by simp) (AllReadyH.cons rfl (fun K hK => ?_) AllReadyH.nil)
                  rw [if_pos (by kernel_rfl)]
                  go_simp
                  refine (y_waits (HZ9.out.on (((Below.refl wr.heap.size wr).drew).trans (hy1.mono ((Below.refl wr.heap.size wr).drew).size))) HE2.out.1 hm6 0 a2 HA.out.2.1).mono ?_
                  rintro e y2 ⟨rfl, hy2⟩
                  try dsimp only
                  refine hK.out _ _ ((((Below.refl wr.heap.size wr).drew).trans (hy1.mono ((Below.refl wr.heap.size wr).drew).size)).trans (hy2.mono (((Below.refl wr.heap.size wr).drew).trans (hy1.mono ((Below.refl wr.heap.size wr).drew).size)).size)) (fun hHeld => ?_)
                  try simp only [Act.put, List.setIfInBounds_toArray, List.set_cons_zero, List.set_cons_succ, List.getElem_toArray, List.getElem_cons_succ, List.getElem_cons_zero]
                  refine take_at (some 100) (i := 8) (v := ?_) rfl rfl (by kernel_rfl) (by kernel_rfl) (by kernel_rfl) (fun _ _ _ h => h) (Or.inl ⟨by kernel_rfl, ?_⟩) hHeld ?_
                  rotate_left
                  · intro wz hSw; go_simp; try (with_reducible rfl)
                  try simp only [Act.put, List.setIfInBounds_toArray, List.set_cons_zero, List.set_cons_succ, List.getElem_toArray, List.getElem_cons_succ, List.getElem_cons_zero]
                  refine take_at (some 105) (i := 13) (v := ?_) rfl rfl (by kernel_rfl) (by kernel_rfl) (by kernel_rfl) (fun _ _ _ h => h) (Or.inl ⟨by kernel_rfl, ?_⟩) hHeld ?_
                  rotate_left
                  · intro wz hSw; go_simp; try (with_reducible rfl)
                  try simp only [Act.put, List.setIfInBounds_toArray, List.set_cons_zero, List.set_cons_succ, List.getElem_toArray, List.getElem_cons_succ, List.getElem_cons_zero]
                  refine take_at (some 106) (i := 14) (v := ?_) rfl rfl (by kernel_rfl) (by kernel_rfl) (by kernel_rfl) (fun _ _ _ h => h) (Or.inl ⟨by kernel_rfl, ?_⟩) hHeld ?_
                  rotate_left
                  · intro wz hSw; go_simp; try (with_reducible rfl)
                  try simp only [Act.put, List.setIfInBounds_toArray, List.set_cons_zero, List.set_cons_succ, List.getElem_toArray, List.getElem_cons_succ, List.getElem_cons_zero]
                  refine take_at (some 107) (i := 15) (v := ?_) rfl rfl (by kernel_rfl) (by kernel_rfl) (by kernel_rfl) (fun _ _ _ h => h) (Or.inl ⟨by kernel_rfl, ?_⟩) hHeld ?_
                  rotate_left
                  · intro wz hSw; go_simp; try (with_reducible rfl)
                  try simp only [Act.put, List.setIfInBounds_toArray, List.set_cons_zero, List.set_cons_succ, List.getElem_toArray, List.getElem_cons_succ, List.getElem_cons_zero]
                  refine take_at (some 108) (i := 16) (v := ?_) rfl rfl (by kernel_rfl) (by kernel_rfl) (by kernel_rfl) (fun _ _ _ h => h) (Or.inl ⟨by kernel_rfl, ?_⟩) hHeld ?_
                  rotate_left
                  · intro wz hSw; go_simp; try (with_reducible rfl)
                  try simp only [Act.put, List.setIfInBounds_toArray, List.set_cons_zero, List.set_cons_succ, List.getElem_toArray, List.getElem_cons_succ, List.getElem_cons_zero]
                  refine take_at (some 109) (i := 17) (v := ?_) rfl rfl (by kernel_rfl) (by kernel_rfl) (by kernel_rfl) (fun _ _ _ h => h) (Or.inl ⟨by kernel_rfl, ?_⟩) hHeld ?_
                  rotate_left
                  · intro wz hSw; go_simp; try (with_reducible rfl)
                  try simp only [Act.put, List.setIfInBounds_toArray, List.set_cons_zero, List.set_cons_succ, List.getElem_toArray, List.getElem_cons_succ, List.getElem_cons_zero]
                  refine take_at (some 110) (i := 18) (v := ?_) rfl rfl (by kernel_rfl) (by kernel_rfl) (by kernel_rfl) (fun _ _ _ h => h) (Or.inl ⟨by kernel_rfl, ?_⟩) hHeld ?_
                  rotate_left
                  · intro wz hSw; have g9 : wz.cell? ⟨tb2, 1, none⟩ = some (.bool true) := (HU9.out.on hSw).b.cell 1; go_simp; try (with_reducible rfl)
                  try simp only [Act.put, List.setIfInBounds_toArray, List.set_cons_zero, List.set_cons_succ, List.getElem_toArray, List.getElem_cons_succ, List.getElem_cons_zero]
                  refine take_at (some 111) (i := 19) (v := ?_) rfl rfl (by kernel_rfl) (by kernel_rfl) (by kernel_rfl) (fun _ _ _ h => h) (Or.inl ⟨by kernel_rfl, ?_⟩) hHeld ?_
                  rotate_left
                  · intro wz hSw; go_simp; try (with_reducible rfl)
                  try simp only [Act.put, List.setIfInBounds_toArray, List.set_cons_zero, List.set_cons_succ, List.getElem_toArray, List.getElem_cons_succ, List.getElem_cons_zero]
                  refine take_at (some 112) (i := 20) (v := ?_) rfl rfl (by kernel_rfl) (by kernel_rfl) (by kernel_rfl) (fun _ _ _ h => h) (Or.inl ⟨by kernel_rfl, ?_⟩) hHeld ?_
                  rotate_left
                  · intro wz hSw; go_simp; try (with_reducible rfl)
                  try simp only [Act.put, List.setIfInBounds_toArray, List.set_cons_zero, List.set_cons_succ, List.getElem_toArray, List.getElem_cons_succ, List.getElem_cons_zero]
                  refine take_at (some 113) (i := 21) (v := undef) rfl rfl (by kernel_rfl) (by kernel_rfl) (by kernel_rfl) (fun _ _ _ h => h) (Or.inr ⟨by kernel_rfl, rfl⟩) hHeld ?_
                  try simp only [Act.put, List.setIfInBounds_toArray, List.set_cons_zero, List.set_cons_succ, List.getElem_toArray, List.getElem_cons_succ, List.getElem_cons_zero]
                  refine take_at (some 114) (i := 22) (v := undef) rfl rfl (by kernel_rfl) (by kernel_rfl) (by kernel_rfl) (fun _ _ _ h => h) (Or.inr ⟨by kernel_rfl, rfl⟩) hHeld ?_
                  try simp only [Act.put, List.setIfInBounds_toArray, List.set_cons_zero, List.set_cons_succ, List.getElem_toArray, List.getElem_cons_succ, List.getElem_cons_zero]
                  refine take_at (some 115) (i := 23) (v := undef) rfl rfl (by kernel_rfl) (by kernel_rfl) (by kernel_rfl) (fun _ _ _ h => h) (Or.inr ⟨by kernel_rfl, rfl⟩) hHeld ?_
                  try simp only [Act.put, List.setIfInBounds_toArray, List.set_cons_zero, List.set_cons_succ, List.getElem_toArray, List.getElem_cons_succ, List.getElem_cons_zero]
                  refine take_at (some 116) (i := 24) (v := undef) rfl rfl (by kernel_rfl) (by kernel_rfl) (by kernel_rfl) (fun _ _ _ h => h) (Or.inr ⟨by kernel_rfl, rfl⟩) hHeld ?_
                  try simp only [Act.put, List.setIfInBounds_toArray, List.set_cons_zero, List.set_cons_succ, List.getElem_toArray, List.getElem_cons_succ, List.getElem_cons_zero]
                  refine take_at (some 117) (i := 25) (v := undef) rfl rfl (by kernel_rfl) (by kernel_rfl) (by kernel_rfl) (fun _ _ _ h => h) (Or.inr ⟨by kernel_rfl, rfl⟩) hHeld ?_
                  try simp only [Act.put, List.setIfInBounds_toArray, List.set_cons_zero, List.set_cons_succ, List.getElem_toArray, List.getElem_cons_succ, List.getElem_cons_zero]
                  refine take_at (some 118) (i := 26) (v := undef) rfl rfl (by kernel_rfl) (by kernel_rfl) (by kernel_rfl) (fun _ _ _ h => h) (Or.inr ⟨by kernel_rfl, rfl⟩) hHeld ?_
                  try simp only [Act.put, List.setIfInBounds_toArray, List.set_cons_zero, List.set_cons_succ, List.getElem_toArray, List.getElem_cons_succ, List.getElem_cons_zero]
                  refine take_at (some 119) (i := 27) (v := undef) rfl rfl (by kernel_rfl) (by kernel_rfl) (by kernel_rfl) (fun _ _ _ h => h) (Or.inr ⟨by kernel_rfl, rfl⟩) hHeld ?_
                  try simp only [Act.put, List.setIfInBounds_toArray, List.set_cons_zero, List.set_cons_succ, List.getElem_toArray, List.getElem_cons_succ, List.getElem_cons_zero]
                  refine take_at (some 120) (i := 28) (v := undef) rfl rfl (by kernel_rfl) (by kernel_rfl) (by kernel_rfl) (fun _ _ _ h => h) (Or.inr ⟨by kernel_rfl, rfl⟩) hHeld ?_
                  try simp only [Act.put, List.setIfInBounds_toArray, List.set_cons_zero, List.set_cons_succ, List.getElem_toArray, List.getElem_cons_succ, List.getElem_cons_zero]
                  refine take_at (some 121) (i := 29) (v := undef) rfl rfl (by kernel_rfl) (by kernel_rfl) (by kernel_rfl) (fun _ _ _ h => h) (Or.inr ⟨by kernel_rfl, rfl⟩) hHeld ?_
                  try simp only [Act.put, List.setIfInBounds_toArray, List.set_cons_zero, List.set_cons_succ, List.getElem_toArray, List.getElem_cons_succ, List.getElem_cons_zero]
                  refine take_at (some 122) (i := 30) (v := undef) rfl rfl (by kernel_rfl) (by kernel_rfl) (by kernel_rfl) (fun _ _ _ h => h) (Or.inr ⟨by kernel_rfl, rfl⟩) hHeld ?_
                  try simp only [Act.put, List.setIfInBounds_toArray, List.set_cons_zero, List.set_cons_succ, List.getElem_toArray, List.getElem_cons_succ, List.getElem_cons_zero]
                  refine take_at (some 123) (i := 31) (v := undef) rfl rfl (by kernel_rfl) (by kernel_rfl) (by kernel_rfl) (fun _ _ _ h => h) (Or.inr ⟨by kernel_rfl, rfl⟩) hHeld ?_
                  try simp only [Act.put, List.setIfInBounds_toArray, List.set_cons_zero, List.set_cons_succ, List.getElem_toArray, List.getElem_cons_succ, List.getElem_cons_zero]
                  refine take_at (some 124) (i := 32) (v := ?_) rfl rfl (by kernel_rfl) (by kernel_rfl) (by kernel_rfl) (fun _ _ _ h => h) (Or.inl ⟨by kernel_rfl, ?_⟩) hHeld ?_
                  rotate_left
                  · intro wz hSw; go_simp; try (with_reducible rfl)
                  try simp only [Act.put, List.setIfInBounds_toArray, List.set_cons_zero, List.set_cons_succ, List.getElem_toArray, List.getElem_cons_succ, List.getElem_cons_zero]
                  refine take_at (some 125) (i := 33) (v := ?_) rfl rfl (by kernel_rfl) (by kernel_rfl) (by kernel_rfl) (fun _ _ _ h => h) (Or.inl ⟨by kernel_rfl, ?_⟩) hHeld ?_
                  rotate_left
                  · intro wz hSw; go_simp; try (with_reducible rfl)
                  try simp only [Act.put, List.setIfInBounds_toArray, List.set_cons_zero, List.set_cons_succ, List.getElem_toArray, List.getElem_cons_succ, List.getElem_cons_zero]
                  refine take_at (some 126) (i := 34) (v := ?_) rfl rfl (by kernel_rfl) (by kernel_rfl) (by kernel_rfl) (fun _ _ _ h => h) (Or.inl ⟨by kernel_rfl, ?_⟩) hHeld ?_
                  rotate_left
                  · intro wz hSw; go_simp; try (with_reducible rfl)
                  try simp only [Act.put, List.setIfInBounds_toArray, List.set_cons_zero, List.set_cons_succ, List.getElem_toArray, List.getElem_cons_succ, List.getElem_cons_zero]
                  refine take_at (some 127) (i := 35) (v := ?_) rfl rfl (by kernel_rfl) (by kernel_rfl) (by kernel_rfl) (fun _ _ _ h => h) (Or.inl ⟨by kernel_rfl, ?_⟩) hHeld ?_
                  rotate_left
                  · intro wz hSw; go_simp; try (with_reducible rfl)
                  try simp only [Act.put, List.setIfInBounds_toArray, List.set_cons_zero, List.set_cons_succ, List.getElem_toArray, List.getElem_cons_succ, List.getElem_cons_zero]
                  refine take_at (some 128) (i := 36) (v := ?_) rfl rfl (by kernel_rfl) (by kernel_rfl) (by kernel_rfl) (fun _ _ _ h => h) (Or.inl ⟨by kernel_rfl, ?_⟩) hHeld ?_
                  rotate_left
                  · intro wz hSw; go_simp; try (with_reducible rfl)
                  try simp only [Act.put, List.setIfInBounds_toArray, List.set_cons_zero, List.set_cons_succ, List.getElem_toArray, List.getElem_cons_succ, List.getElem_cons_zero]
                  refine take_at (some 129) (i := 37) (v := ?_) rfl rfl (by kernel_rfl) (by kernel_rfl) (by kernel_rfl) (fun _ _ _ h => h) (Or.inl ⟨by kernel_rfl, ?_⟩) hHeld ?_
                  rotate_left
                  · intro wz hSw; go_simp; try (with_reducible rfl)
                  try simp only [Act.put, List.setIfInBounds_toArray, List.set_cons_zero, List.set_cons_succ, List.getElem_toArray, List.getElem_cons_succ, List.getElem_cons_zero]
                  refine take_at (some 130) (i := 38) (v := ?_) rfl rfl (by kernel_rfl) (by kernel_rfl) (by kernel_rfl) (fun _ _ _ h => h) (Or.inl ⟨by kernel_rfl, ?_⟩) hHeld ?_
                  rotate_left
                  · intro wz hSw; have g9 : wz.cell? ⟨tb2, 1, none⟩ = some (.bool true) := (HU9.out.on hSw).b.cell 1; go_simp; try (with_reducible rfl)
                  try simp only [Act.put, List.setIfInBounds_toArray, List.set_cons_zero, List.set_cons_succ, List.getElem_toArray, List.getElem_cons_succ, List.getElem_cons_zero]
                  refine take_at (some 131) (i := 39) (v := ?_) rfl rfl (by kernel_rfl) (by kernel_rfl) (by kernel_rfl) (fun _ _ _ h => h) (Or.inl ⟨by kernel_rfl, ?_⟩) hHeld ?_
                  rotate_left
                  · intro wz hSw; go_simp; try (with_reducible rfl)
                  try simp only [Act.put, List.setIfInBounds_toArray, List.set_cons_zero, List.set_cons_succ, List.getElem_toArray, List.getElem_cons_succ, List.getElem_cons_zero]
                  refine take_at (some 132) (i := 40) (v := ?_) rfl rfl (by kernel_rfl) (by kernel_rfl) (by kernel_rfl) (fun _ _ _ h => h) (Or.inl ⟨by kernel_rfl, ?_⟩) hHeld ?_
                  rotate_left
                  · intro wz hSw; go_simp; try (with_reducible rfl)
                  try simp only [Act.put, List.setIfInBounds_toArray, List.set_cons_zero, List.set_cons_succ, List.getElem_toArray, List.getElem_cons_succ, List.getElem_cons_zero]
                  refine take_at (some 133) (i := 41) (v := ?_) rfl rfl (by kernel_rfl) (by kernel_rfl) (by kernel_rfl) (fun _ _ _ h => h) (Or.inl ⟨by kernel_rfl, ?_⟩) hHeld ?_
                  rotate_left
                  · intro wz hSw; go_simp; try (with_reducible rfl)
                  try simp only [Act.put, List.setIfInBounds_toArray, List.set_cons_zero, List.set_cons_succ, List.getElem_toArray, List.getElem_cons_succ, List.getElem_cons_zero]
                  refine wpAnyH_ready (rs := [42]) (by kernel_rfl) (by simp) (AllReadyH.cons rfl (fun K hK => ?_) AllReadyH.nil)
                  rw [if_pos (by kernel_rfl)]
                  go_simp
                  refine (y_room (HZ9.out.on ((((Below.refl wr.heap.size wr).drew).trans (hy1.mono ((Below.refl wr.heap.size wr).drew).size)).trans (hy2.mono (((Below.refl wr.heap.size wr).drew).trans (hy1.mono ((Below.refl wr.heap.size wr).drew).size)).size))) HE2.out.1 hm6 1 0 (HA.out.2.2.2 rfl)).mono ?_
                  rintro e y5 ⟨rfl, hy5⟩
                  try dsimp only
                  refine hK.out _ _ (((((Below.refl wr.heap.size wr).drew).trans (hy1.mono ((Below.refl wr.heap.size wr).drew).size)).trans (hy2.mono (((Below.refl wr.heap.size wr).drew).trans (hy1.mono ((Below.refl wr.heap.size wr).drew).size)).size)).trans (hy5.mono ((((Below.refl wr.heap.size wr).drew).trans (hy1.mono ((Below.refl wr.heap.size wr).drew).size)).trans (hy2.mono (((Below.refl wr.heap.size wr).drew).trans (hy1.mono ((Below.refl wr.heap.size wr).drew).size)).size)).size)) (fun hHeld => ?_)
                  try simp only [Act.put, List.setIfInBounds_toArray, List.set_cons_zero, List.set_cons_succ, List.getElem_toArray, List.getElem_cons_succ, List.getElem_cons_zero]
                  refine take_at (some 135) (i := 43) (v := ?_) rfl rfl (by kernel_rfl) (by kernel_rfl) (by kernel_rfl) (fun _ _ _ h => h) (Or.inl ⟨by kernel_rfl, ?_⟩) hHeld ?_
                  rotate_left
                  · intro wz hSw; go_simp; try (with_reducible rfl)
                  try simp only [Act.put, List.setIfInBounds_toArray, List.set_cons_zero, List.set_cons_succ, List.getElem_toArray, List.getElem_cons_succ, List.getElem_cons_zero]
                  refine take_at (some 136) (i := 44) (v := ?_) rfl rfl (by kernel_rfl) (by kernel_rfl) (by kernel_rfl) (fun _ _ _ h => h) (Or.inl ⟨by kernel_rfl, ?_⟩) hHeld ?_
                  rotate_left
                  · intro wz hSw; go_simp; try (with_reducible rfl)
                  try simp only [Act.put, List.setIfInBounds_toArray, List.set_cons_zero, List.set_cons_succ, List.getElem_toArray, List.getElem_cons_succ, List.getElem_cons_zero]
                  refine take_at (some 137) (i := 45) (v := ?_) rfl rfl (by kernel_rfl) (by kernel_rfl) (by kernel_rfl) (fun _ _ _ h => h) (Or.inl ⟨by kernel_rfl, ?_⟩) hHeld ?_
                  rotate_left
                  · intro wz hSw; go_simp; try (with_reducible rfl)
                  try simp only [Act.put, List.setIfInBounds_toArray, List.set_cons_zero, List.set_cons_succ, List.getElem_toArray, List.getElem_cons_succ, List.getElem_cons_zero]
                  refine wpAnyH_done (by kernel_rfl) ?_ _
                  have hbb := (((((Below.refl wr.heap.size wr).drew).trans (hy1.mono ((Below.refl wr.heap.size wr).drew).size)).trans (hy2.mono (((Below.refl wr.heap.size wr).drew).trans (hy1.mono ((Below.refl wr.heap.size wr).drew).size)).size)).trans (hy5.mono ((((Below.refl wr.heap.size wr).drew).trans (hy1.mono ((Below.refl wr.heap.size wr).drew).size)).trans (hy2.mono (((Below.refl wr.heap.size wr).drew).trans (hy1.mono ((Below.refl wr.heap.size wr).drew).size)).size)).size))
                  have HZa := Lib.hid (HZ9.out.on hbb)
                  have HTa := Lib.hid (HT9.out.on hbb)
                  have HUa := Lib.hid (HU9.out.on hbb)
                  clear hbb hHeld
                  go_wp2_with fail
                  go_roundw
                  case rel => exact ⟨2, by omega, by first | rfl | go_num, HZa, HTa, HUa⟩
                  case measure => simp [intOf] <;> omega
              · have hk4 : ¬ ((2 : Int) < 2) := by decide
                go_wp2_with fail
                go_roundw
                case rel => exact ⟨i + 1, p2, G5, J0, J1, F0, F1, by omega, by go_num, HZ9, HE2, HT9, HU9, HS2⟩
                case measure => simp [intOf] <;> omega
      · by_cases hs1 : os = 1
        · subst hs1
          as_aux_lemma =>
            go_upto_if 54 with fail
            go_cut [9] from 29 to 137 (fun v9 wx => ∃ (p2 : Pu) (G5 : List Nat) (J0 J1 : Nat) (F0 F1 : Bool), v9 = .int .i64 (i : Int) ∧ Hid (Zu W wx G5 pb M p2) ∧ Hid (Gu M p2 ∧ Fi (i + 1) p2) ∧ Hid (Bz wx G5 tb1 3 #[.int .i64 (J0 : Int), .int .i64 (J1 : Int)]) ∧ Hid (Bz wx G5 tb2 4 #[.bool F0, .bool F1]) ∧ Hid (Su M (i + 1) p2 J0 J1 F0 F1))
            case first =>
              by_cases h2 : ow = 2
              · subst h2
                have h2c : ((2 : Int) == 2) = true := rfl
                obtain ⟨⟨⟨l, b⟩, p2⟩, hR⟩ : ∃ R, outP p 1 ox = R := ⟨_, rfl⟩
                have HRE := Lib.hid hR
                have HE2 := Lib.hid (show Gu M p2 ∧ Fi (i + 1) p2 from ⟨gu_out2 HE.out.1 hR, fi_out HE.out.2 HE.out.1 hm6 hR⟩)
                have HS2 := Lib.hid (show Su M (i + 1) p2 I0 I1 E0 E1 by
                  have ho := out_at (k := true) rfl HE.out.1 hR
                  have hr := HR.out
                  have e1 : p2.b = p.b := ho.same
                  have e2 : p2.a.mv = p.a.mv + (l.length : Int) := ho.mv
                  have e3 : p.a.q = l ++ p2.a.q := ho.split hr.br
                  have e4 : p2.a.en = p.a.en := ho.en
                  have h5 := hr.a
                  rw [e3, List.length_append] at h5
                  exact ⟨ho.br.trans hr.br, by rw [e2]; omega, by rw [e1]; exact hr.b, hr.ea.trans e4.symm, by rw [e1]; exact hr.eb⟩)
                clear hR
                go_wp2_with (go_at_call 14; (with_reducible refine (y_out HZv.out HE.out.1 hm6 HFU.out 1 ox _ l b p2 HRE.out rfl).mono ?_); rintro e u6 ⟨G5, A4, c4, rfl, h0, h1, h2⟩; have HZ6 := Lib.hid h1; have HT6 := Lib.hid (HTv.out.step h2); have HU6 := Lib.hid (HUv.out.step h2); clear h0 h1 h2)
                clear e0 e1 e2 e3
                go_meet
                case rel => exact ⟨p2, G5, I0, I1, E0, E1, rfl, HZ6, HE2, HT6, HU6, HS2⟩
              · have h2b : (ow == 2) = false := by simp [h2]
                clear h2
                by_cases h3 : ow = 3
                · subst h3
                  obtain ⟨⟨r, p2⟩, hR⟩ : ∃ R, endP p 1 = R := ⟨_, rfl⟩
                  have HRE := Lib.hid hR
                  have HE2 := Lib.hid (show Gu M p2 ∧ Fi (i + 1) p2 from ⟨gu_end2 HE.out.1 hR, fi_end HE.out.2 hR⟩)
                  have HS2 := Lib.hid (show Su M (i + 1) p2 I0 I1 E0 true by
                    have ho := end_at (k := true) rfl hR
                    have hr := HR.out
                    have e1 : p2.a = p.a := ho.same
                    have e2 : p2.b.mv = p.b.mv := ho.mv
                    have e3 : p2.b.q = p.b.q := ho.q
                    have e4 : true = p2.b.en := by
                      have h6 : p2.b.en = (p.b.en || r) := ho.en
                      have h7 : r = (!p.br && !p.b.en) := ho.is_
                      rw [h6, h7, hr.br]
                      cases p.b.en <;> rfl
                    exact ⟨ho.br.trans hr.br, by rw [e1]; exact hr.a, by rw [e2, e3]; exact hr.b, by rw [e1]; exact hr.ea, e4⟩)
                  clear hR
                  go_upto_region 16 with (go_at_call 16; (with_reducible refine (y_end HZv.out 1 r p2 HRE.out).mono ?_); rintro e u5 ⟨G5, rfl, h1, h2⟩; have HZ5 := Lib.hid h1; have HB5 := Lib.hid (HB.out.step h2); have HT5 := Lib.hid (HTv.out.step h2); have HU5 := Lib.hid (HUv.out.step h2); clear h1 h2)
                  clear e0 e1 e2 e3
                  have e1 : u5.cell? ⟨kb, 1, none⟩ = some (.int .i64 1) := HB5.out.b.cell 1
                  have g1 : u5.cell? ⟨tb2, 1, none⟩ = some (.bool E1) := HU5.out.b.cell 1
                  have fg1 := HU5.out.b.frozen 1
                  go_wp2_with fail
                  clear e1 g1 fg1
                  obtain ⟨u6, hu6⟩ : ∃ w, u5.setCell ⟨tb2, 1, none⟩ (.bool true) = w := ⟨_, rfl⟩
                  try rw [hu6]
                  have kk : Ke [tb2] u5 u6 := by rw [← hu6]; exact (Ke.refl [tb2] u5).set (p := ⟨tb2, 1, none⟩) (by simp) _
                  have HZ6 := Lib.hid (HZ5.out.ke kk (fun y hy hx => by rw [List.mem_singleton.1 hx] at hy; exact HU5.out.n hy) (HZ5.out.l.trans (kk.below HZ5.out.l.size (fun x hx => by rw [List.mem_singleton.1 hx]; exact HTB.out.2.1))))
                  have HU6 := Lib.hid (show Bz u6 G5 tb2 4 #[.bool E0, .bool true] from ⟨by rw [← hu6]; exact HU5.out.b.set 1 _, HU5.out.n⟩)
                  have HT6 := Lib.hid (show Bz u6 G5 tb1 3 #[.int .i64 (I0 : Int), .int .i64 (I1 : Int)] from ⟨HT5.out.b.ke kk (by simpa using HTB.out.2.2), HT5.out.n⟩)
                  clear hu6 kk
                  obtain ⟨F1, hF⟩ : ∃ F, true = F := ⟨_, rfl⟩
                  rw [hF] at HS2 HU6
                  clear hF
                  go_meet
                  case rel => exact ⟨p2, G5, I0, I1, E0, F1, rfl, HZ6, HE2, HT6, HU6, HS2⟩
                · have h3b : (ow == 3) = false := by simp [h3]
                  clear h3
                  obtain ⟨⟨r, p2⟩, hR⟩ : ∃ R, inP M p 1 ol = R := ⟨_, rfl⟩
                  have HRE := Lib.hid hR
                  have HE2 := Lib.hid (show Gu M p2 ∧ Fi (i + 1) p2 from ⟨gu_in2 HE.out.1 hR, fi_in HE.out.2 hR⟩)
                  obtain ⟨J1, hJ⟩ : ∃ x, I1 + r = x := ⟨_, rfl⟩
                  have HS2 := Lib.hid (show Su M (i + 1) p2 I0 J1 E0 E1 by
                    have ho := in_at (k := true) rfl hR
                    have hr := HR.out
                    have e1 : p2.a = p.a := ho.same
                    have e2 : p2.b.mv = p.b.mv := ho.mv
                    have e3 : p2.b.q = p.b.q ++ ol.take r := ho.q
                    have e4 : p2.b.en = p.b.en := ho.en
                    have h8 := ho.le
                    have h5 := hr.b
                    have h9 : p2.b.mv + (p2.b.q.length : Int) = (J1 : Int) := by rw [e2, e3, List.length_append, List.length_take, Nat.min_eq_left h8]; omega
                    exact ⟨ho.br.trans hr.br, by rw [e1]; exact hr.a, h9, by rw [e1]; exact hr.ea, hr.eb.trans e4.symm⟩)
                  have hr255 : r ≤ 100000000 := by have h1 := (HS2.out.lt HE2.out.1 HE2.out.2 hM (by omega)); have := h1.2; omega
                  have hIk : I1 ≤ 100000000 := HIB.out.2
                  have hwI : IntKind.i64.wrap ((I1 : Int) + (r : Int)) = (J1 : Int) := by rw [IntKind.wrap_i64]; omega
                  clear hR hJ hIk hr255
                  go_upto_region 17 with fail
                  have HVD := Lib.hid ((Below.refl v.heap.size v).drew)
                  have HOW := Lib.hid (HOK.out v.drew (HZv.out.on HVD.out).l)
                  have HBd := Lib.hid (show Bz v.drew G kb 31 #[.int .i64 ow, .int .i64 1, .slice oA on oc, .int .i64 ox] from ⟨HB.out.b.drew, HB.out.n⟩)
                  have HTd := Lib.hid (show Bz v.drew G tb1 3 #[.int .i64 (I0 : Int), .int .i64 (I1 : Int)] from ⟨HTv.out.b.drew, HTv.out.n⟩)
                  have HUd := Lib.hid (show Bz v.drew G tb2 4 #[.bool E0, .bool E1] from ⟨HUv.out.b.drew, HUv.out.n⟩)
                  clear e0 e1 e2 e3
                  have k0 : v.drew.cell? ⟨tb1, 1, none⟩ = some (.int .i64 (I1 : Int)) := HTd.out.b.cell 1
                  try simp only [List.cons_append, List.nil_append]
                  refine wp_region_held_drew (S := fun wz => Bk wz kb 31 #[.int .i64 ow, .int .i64 1, .slice oA on oc, .int .i64 ox]) (by kernel_rfl) (HBd.out.b) (fun hHeld => ?_)
                  refine take_at (some 72) (i := 0) (v := ?_) rfl rfl (by kernel_rfl) (by kernel_rfl) (by kernel_rfl) (fun _ _ _ h => h) (Or.inl ⟨by kernel_rfl, ?_⟩) hHeld ?_
                  rotate_left
                  · intro wz hSw; go_simp; try (with_reducible rfl)
                  try simp only [Act.put, List.setIfInBounds_toArray, List.set_cons_zero, List.set_cons_succ, List.getElem_toArray, List.getElem_cons_succ, List.getElem_cons_zero]
                  refine take_at (some 73) (i := 1) (v := ?_) rfl rfl (by kernel_rfl) (by kernel_rfl) (by kernel_rfl) (fun _ _ _ h => h) (Or.inl ⟨by kernel_rfl, ?_⟩) hHeld ?_
                  rotate_left
                  · intro wz hSw; have e1 := hSw.cell 1; go_simp; try (with_reducible rfl)
                  try simp only [Act.put, List.setIfInBounds_toArray, List.set_cons_zero, List.set_cons_succ, List.getElem_toArray, List.getElem_cons_succ, List.getElem_cons_zero]
                  refine take_at (some 74) (i := 2) (v := ?_) rfl rfl (by kernel_rfl) (by kernel_rfl) (by kernel_rfl) (fun _ _ _ h => h) (Or.inl ⟨by kernel_rfl, ?_⟩) hHeld ?_
                  rotate_left
                  · intro wz hSw; have e1 := hSw.cell 1; go_simp; try (with_reducible rfl)
                  try simp only [Act.put, List.setIfInBounds_toArray, List.set_cons_zero, List.set_cons_succ, List.getElem_toArray, List.getElem_cons_succ, List.getElem_cons_zero]
                  refine take_at (some 75) (i := 3) (v := ?_) rfl rfl (by kernel_rfl) (by kernel_rfl) (by kernel_rfl) (fun _ _ _ h => h) (Or.inl ⟨by kernel_rfl, ?_⟩) hHeld ?_
                  rotate_left
                  · intro wz hSw; go_simp; try (with_reducible rfl)
                  try simp only [Act.put, List.setIfInBounds_toArray, List.set_cons_zero, List.set_cons_succ, List.getElem_toArray, List.getElem_cons_succ, List.getElem_cons_zero]
                  refine take_at (some 76) (i := 4) (v := ?_) rfl rfl (by kernel_rfl) (by kernel_rfl) (by kernel_rfl) (fun _ _ _ h => h) (Or.inl ⟨by kernel_rfl, ?_⟩) hHeld ?_
                  rotate_left
                  · intro wz hSw; have e1 := hSw.cell 1; go_simp; try (with_reducible rfl)
                  try simp only [Act.put, List.setIfInBounds_toArray, List.set_cons_zero, List.set_cons_succ, List.getElem_toArray, List.getElem_cons_succ, List.getElem_cons_zero]
                  refine take_at (some 77) (i := 5) (v := ?_) rfl rfl (by kernel_rfl) (by kernel_rfl) (by kernel_rfl) (fun _ _ _ h => h) (Or.inl ⟨by kernel_rfl, ?_⟩) hHeld ?_
                  rotate_left
                  · intro wz hSw; have e1 := hSw.cell 1; go_simp; try (with_reducible rfl)
                  try simp only [Act.put, List.setIfInBounds_toArray, List.set_cons_zero, List.set_cons_succ, List.getElem_toArray, List.getElem_cons_succ, List.getElem_cons_zero]
                  refine take_at (some 78) (i := 6) (v := ?_) rfl rfl (by kernel_rfl) (by kernel_rfl) (by kernel_rfl) (fun _ _ _ h => h) (Or.inl ⟨by kernel_rfl, ?_⟩) hHeld ?_
                  rotate_left
                  · intro wz hSw; go_simp; try (with_reducible rfl)
                  try simp only [Act.put, List.setIfInBounds_toArray, List.set_cons_zero, List.set_cons_succ, List.getElem_toArray, List.getElem_cons_succ, List.getElem_cons_zero]
                  refine take_at (some 80) (i := 8) (v := ?_) rfl rfl (by kernel_rfl) (by kernel_rfl) (by kernel_rfl) (fun _ _ _ h => h) (Or.inl ⟨by kernel_rfl, ?_⟩) hHeld ?_
                  rotate_left
                  · intro wz hSw; go_simp; try (with_reducible rfl)
                  try simp only [Act.put, List.setIfInBounds_toArray, List.set_cons_zero, List.set_cons_succ, List.getElem_toArray, List.getElem_cons_succ, List.getElem_cons_zero]
                  refine take_at (some 81) (i := 9) (v := ?_) rfl rfl (by kernel_rfl) (by kernel_rfl) (by kernel_rfl) (fun _ _ _ h => h) (Or.inl ⟨by kernel_rfl, ?_⟩) hHeld ?_
                  rotate_left
                  · intro wz hSw; have e1 := hSw.cell 1; go_simp; try (with_reducible rfl)
                  try simp only [Act.put, List.setIfInBounds_toArray, List.set_cons_zero, List.set_cons_succ, List.getElem_toArray, List.getElem_cons_succ, List.getElem_cons_zero]
                  refine take_at (some 82) (i := 10) (v := ?_) rfl rfl (by kernel_rfl) (by kernel_rfl) (by kernel_rfl) (fun _ _ _ h => h) (Or.inl ⟨by kernel_rfl, ?_⟩) hHeld ?_
                  rotate_left
                  · intro wz hSw; have e1 := hSw.cell 1; go_simp; try (with_reducible rfl)
                  try simp only [Act.put, List.setIfInBounds_toArray, List.set_cons_zero, List.set_cons_succ, List.getElem_toArray, List.getElem_cons_succ, List.getElem_cons_zero]
                  refine take_at (some 83) (i := 11) (v := ?_) rfl rfl (by kernel_rfl) (by kernel_rfl) (by kernel_rfl) (fun _ _ _ h => h) (Or.inl ⟨by kernel_rfl, ?_⟩) hHeld ?_
                  rotate_left
                  · intro wz hSw; have e2 := hSw.cell 2; go_simp; try (with_reducible rfl)
                  try simp only [Act.put, List.setIfInBounds_toArray, List.set_cons_zero, List.set_cons_succ, List.getElem_toArray, List.getElem_cons_succ, List.getElem_cons_zero]
                  refine take_at (some 84) (i := 12) (v := ?_) rfl rfl (by kernel_rfl) (by kernel_rfl) (by kernel_rfl) (fun _ _ _ h => h) (Or.inl ⟨by kernel_rfl, ?_⟩) hHeld ?_
                  rotate_left
                  · intro wz hSw; have e2 := hSw.cell 2; go_simp; try (with_reducible rfl)
                  try simp only [Act.put, List.setIfInBounds_toArray, List.set_cons_zero, List.set_cons_succ, List.getElem_toArray, List.getElem_cons_succ, List.getElem_cons_zero]
                  refine wpAnyH_ready (rs := [7, 13]) (by kernel_rfl) (by simp) (AllReadyH.cons rfl (fun K hK => ?_) (AllReadyH.cons rfl (fun K hK => ?_) AllReadyH.nil))
                  · rw [if_pos (by kernel_rfl)]
                    go_simp
                    refine hK.out _ _ (HBd.out.b) (fun hHeld => ?_)
                    try simp only [Act.put, List.setIfInBounds_toArray, List.set_cons_zero, List.set_cons_succ, List.getElem_toArray, List.getElem_cons_succ, List.getElem_cons_zero]
                    refine wpAnyH_ready (rs := [13]) (by kernel_rfl) (by simp) (AllReadyH.cons rfl (fun K hK => ?_) AllReadyH.nil)
                    rw [if_pos (by kernel_rfl)]
                    go_simp
                    refine (y_in (HZv.out.on HVD.out) HE.out.1 hm6 1 oA on oc ol HON.out (HON.out ▸ HOW.out.cap) HOW.out.max (fun hh => HON.out ▸ HOW.out.nil_ hh) (HOW.out.rb.rf HZv.out.lo) r p2 HRE.out).mono ?_
                    rintro e u5 ⟨G5, rfl, h1, h2⟩
                    try dsimp only
                    have HZ5 := Lib.hid h1
                    have HT5 := Lib.hid (HTd.out.step h2)
                    have HU5 := Lib.hid (HUd.out.step h2)
                    have HB5 := Lib.hid (HBd.out.step h2)
                    have k5 : u5.cell? ⟨tb1, 1, none⟩ = some (.int .i64 (I1 : Int)) := HT5.out.b.cell 1
                    have f5 := HT5.out.b.frozen 1
                    clear h1 h2
                    refine hK.out _ _ HB5.out.b (fun hHeld => ?_)
                    try simp only [Act.put, List.setIfInBounds_toArray, List.set_cons_zero, List.set_cons_succ, List.getElem_toArray, List.getElem_cons_succ, List.getElem_cons_zero]
                    refine take_at (some 86) (i := 14) (v := ?_) rfl rfl (by kernel_rfl) (by kernel_rfl) (by kernel_rfl) (fun _ _ _ h => h) (Or.inl ⟨by kernel_rfl, ?_⟩) hHeld ?_
                    rotate_left
                    · intro wz hSw; go_simp; try (with_reducible rfl)
                    try simp only [Act.put, List.setIfInBounds_toArray, List.set_cons_zero, List.set_cons_succ, List.getElem_toArray, List.getElem_cons_succ, List.getElem_cons_zero]
                    refine take_at (some 87) (i := 15) (v := ?_) rfl rfl (by kernel_rfl) (by kernel_rfl) (by kernel_rfl) (fun _ _ _ h => h) (Or.inl ⟨by kernel_rfl, ?_⟩) hHeld ?_
                    rotate_left
                    · intro wz hSw; go_simp; try (with_reducible rfl)
                    try simp only [Act.put, List.setIfInBounds_toArray, List.set_cons_zero, List.set_cons_succ, List.getElem_toArray, List.getElem_cons_succ, List.getElem_cons_zero]
                    refine wpAnyH_ready (rs := [16]) (by kernel_rfl) (by simp) (AllReadyH.cons rfl (fun K hK => ?_) AllReadyH.nil)
                    rw [if_pos (by kernel_rfl)]
                    go_simp
                    refine hK.out _ _ (HB5.out.b.ke ((Ke.refl [tb1] u5).set (p := ⟨tb1, 1, none⟩) (by simp) _) (by simpa using HKB.out.1)) (fun hHeld => ?_)
                    try simp only [Act.put, List.setIfInBounds_toArray, List.set_cons_zero, List.set_cons_succ, List.getElem_toArray, List.getElem_cons_succ, List.getElem_cons_zero]
                    refine wpAnyH_done (by kernel_rfl) ?_ _
                    clear hHeld k5 f5 k0
                    go_wp2_with fail
                    obtain ⟨u6, hu6⟩ : ∃ w, u5.setCell ⟨tb1, 1, none⟩ (.int .i64 (J1 : Int)) = w := ⟨_, rfl⟩
                    try rw [hu6]
                    have kk : Ke [tb1] u5 u6 := by rw [← hu6]; exact (Ke.refl [tb1] u5).set (p := ⟨tb1, 1, none⟩) (by simp) _
                    have HZ6 := Lib.hid (HZ5.out.ke kk (fun y hy hx => by rw [List.mem_singleton.1 hx] at hy; exact HT5.out.n hy) (HZ5.out.l.trans (kk.below HZ5.out.l.size (fun x hx => by rw [List.mem_singleton.1 hx]; exact HTB.out.1))))
                    have HT6 := Lib.hid (show Bz u6 G5 tb1 3 #[.int .i64 (I0 : Int), .int .i64 (J1 : Int)] from ⟨by rw [← hu6]; exact HT5.out.b.set 1 _, HT5.out.n⟩)
                    have HU6 := Lib.hid (show Bz u6 G5 tb2 4 #[.bool E0, .bool E1] from ⟨HU5.out.b.ke kk (by simpa using HTB.out.2.2.symm), HU5.out.n⟩)
                    clear hu6 kk
                    go_meet
                    case rel => exact ⟨p2, G5, I0, J1, E0, E1, rfl, HZ6, HE2, HT6, HU6, HS2⟩
                  · rw [if_pos (by kernel_rfl)]
                    go_simp
                    refine (y_in (HZv.out.on HVD.out) HE.out.1 hm6 1 oA on oc ol HON.out (HON.out ▸ HOW.out.cap) HOW.out.max (fun hh => HON.out ▸ HOW.out.nil_ hh) (HOW.out.rb.rf HZv.out.lo) r p2 HRE.out).mono ?_
                    rintro e u5 ⟨G5, rfl, h1, h2⟩
                    try dsimp only
                    have HZ5 := Lib.hid h1
                    have HT5 := Lib.hid (HTd.out.step h2)
                    have HU5 := Lib.hid (HUd.out.step h2)
                    have HB5 := Lib.hid (HBd.out.step h2)
                    have k5 : u5.cell? ⟨tb1, 1, none⟩ = some (.int .i64 (I1 : Int)) := HT5.out.b.cell 1
                    have f5 := HT5.out.b.frozen 1
                    clear h1 h2
                    refine hK.out _ _ HB5.out.b (fun hHeld => ?_)
                    try simp only [Act.put, List.setIfInBounds_toArray, List.set_cons_zero, List.set_cons_succ, List.getElem_toArray, List.getElem_cons_succ, List.getElem_cons_zero]
                    refine wpAnyH_ready (rs := [7]) (by kernel_rfl) (by simp) (AllReadyH.cons rfl (fun K hK => ?_) AllReadyH.nil)
                    rw [if_pos (by kernel_rfl)]
                    go_simp
                    refine hK.out _ _ (HB5.out.b) (fun hHeld => ?_)
                    try simp only [Act.put, List.setIfInBounds_toArray, List.set_cons_zero, List.set_cons_succ, List.getElem_toArray, List.getElem_cons_succ, List.getElem_cons_zero]
                    refine take_at (some 86) (i := 14) (v := ?_) rfl rfl (by kernel_rfl) (by kernel_rfl) (by kernel_rfl) (fun _ _ _ h => h) (Or.inl ⟨by kernel_rfl, ?_⟩) hHeld ?_
                    rotate_left
                    · intro wz hSw; go_simp; try (with_reducible rfl)
                    try simp only [Act.put, List.setIfInBounds_toArray, List.set_cons_zero, List.set_cons_succ, List.getElem_toArray, List.getElem_cons_succ, List.getElem_cons_zero]
                    refine take_at (some 87) (i := 15) (v := ?_) rfl rfl (by kernel_rfl) (by kernel_rfl) (by kernel_rfl) (fun _ _ _ h => h) (Or.inl ⟨by kernel_rfl, ?_⟩) hHeld ?_
                    rotate_left
                    · intro wz hSw; go_simp; try (with_reducible rfl)
                    try simp only [Act.put, List.setIfInBounds_toArray, List.set_cons_zero, List.set_cons_succ, List.getElem_toArray, List.getElem_cons_succ, List.getElem_cons_zero]
                    refine wpAnyH_ready (rs := [16]) (by kernel_rfl) (by simp) (AllReadyH.cons rfl (fun K hK => ?_) AllReadyH.nil)
                    rw [if_pos (by kernel_rfl)]
                    go_simp
                    refine hK.out _ _ (HB5.out.b.ke ((Ke.refl [tb1] u5).set (p := ⟨tb1, 1, none⟩) (by simp) _) (by simpa using HKB.out.1)) (fun hHeld => ?_)
                    try simp only [Act.put, List.setIfInBounds_toArray, List.set_cons_zero, List.set_cons_succ, List.getElem_toArray, List.getElem_cons_succ, List.getElem_cons_zero]
                    refine wpAnyH_done (by kernel_rfl) ?_ _
                    clear hHeld k5 f5 k0
                    go_wp2_with fail
                    obtain ⟨u6, hu6⟩ : ∃ w, u5.setCell ⟨tb1, 1, none⟩ (.int .i64 (J1 : Int)) = w := ⟨_, rfl⟩
                    try rw [hu6]
                    have kk : Ke [tb1] u5 u6 := by rw [← hu6]; exact (Ke.refl [tb1] u5).set (p := ⟨tb1, 1, none⟩) (by simp) _
                    have HZ6 := Lib.hid (HZ5.out.ke kk (fun y hy hx => by rw [List.mem_singleton.1 hx] at hy; exact HT5.out.n hy) (HZ5.out.l.trans (kk.below HZ5.out.l.size (fun x hx => by rw [List.mem_singleton.1 hx]; exact HTB.out.1))))
                    have HT6 := Lib.hid (show Bz u6 G5 tb1 3 #[.int .i64 (I0 : Int), .int .i64 (J1 : Int)] from ⟨by rw [← hu6]; exact HT5.out.b.set 1 _, HT5.out.n⟩)
                    have HU6 := Lib.hid (show Bz u6 G5 tb2 4 #[.bool E0, .bool E1] from ⟨HU5.out.b.ke kk (by simpa using HTB.out.2.2.symm), HU5.out.n⟩)
                    clear hu6 kk
                    go_meet
                    case rel => exact ⟨p2, G5, I0, J1, E0, E1, rfl, HZ6, HE2, HT6, HU6, HS2⟩
            case rest =>
              obtain ⟨p2, G5, J0, J1, F0, F1, rfl, HZ6, HE2, HT6, HU6, HS2⟩ := hcut
              have HIB2 := Lib.hid (HS2.out.lt HE2.out.1 HE2.out.2 hM (by omega))
              go_wp2_with fail
              go_loopw [11] (fun v11 w9 => ∃ k : Nat, k ≤ 2 ∧ v11 = .int .i64 (k : Int) ∧ Hid (Zu W w9 G5 pb M p2) ∧ Hid (Bz w9 G5 tb1 3 #[.int .i64 (J0 : Int), .int .i64 (J1 : Int)]) ∧ Hid (Bz w9 G5 tb2 4 #[.bool F0, .bool F1])) (fun v11 _ => 2 - (intOf v11).toNat)
              case atStart => exact ⟨0, by omega, rfl, HZ6, HT6, HU6⟩
              case round =>
                obtain ⟨k, hk, rfl, HZ9, HT9, HU9⟩ := hrel
                rcases (show k = 0 ∨ k = 1 ∨ k = 2 by omega) with rfl | rfl | rfl
                · obtain ⟨a1, ha1⟩ : ∃ a, p2.a.mv = a := ⟨_, rfl⟩
                  obtain ⟨a2, ha2⟩ : ∃ a, p2.a.q.length = a := ⟨_, rfl⟩
                  have hsum := HS2.out.a
                  rw [ha1, ha2] at hsum
                  have hle := (HE2.out.1.a).le
                  rw [ha2] at hle
                  have hJ : J0 ≤ 100000000 := HIB2.out.1
                  have hwJ : IntKind.i64.wrap (a1 + (a2 : Int)) = (J0 : Int) := by rw [hsum, IntKind.wrap_i64]; omega
                  obtain ⟨a3, ha3⟩ : ∃ a, M - a2 = a := ⟨_, rfl⟩
                  have hwR : IntKind.i64.wrap ((M : Int) - (a2 : Int)) = (a3 : Int) := by rw [IntKind.wrap_i64]; omega
                  have HA := Lib.hid (show mvP p2 1 = a1 ∧ wtP p2 1 = a2 ∧ (F0 = false → rmP M p2 0 = a3) ∧ (F0 = true → rmP M p2 0 = 0) from ⟨ha1, ha2, fun hh => ?_, fun hh => ?_⟩)
                  rotate_left
                  · have h1 := HS2.out.ea
                    rw [hh] at h1
                    show (if (p2.br || p2.a.en) = true then 0 else M - p2.a.q.length) = a3
                    rw [HS2.out.br, ← h1, ha2, ha3]
                    rfl
                  · have h1 := HS2.out.ea
                    rw [hh] at h1
                    show (if (p2.br || p2.a.en) = true then 0 else M - p2.a.q.length) = 0
                    rw [HS2.out.br, ← h1]
                    rfl
                  have n1 : ((J0 : Int) != (J0 : Int)) = false := by simp
                  have n3 : ((a3 : Int) != (a3 : Int)) = false := by simp
                  clear hsum hle hJ ha1 ha2 ha3
                  have hw0 : IntKind.i64.wrap (1 - 0) = 1 := by decide
                  have hw1 : IntKind.i64.wrap (1 - 1) = 0 := by decide
                  have hw2 : IntKind.i64.wrap 1 = 1 := by decide
                  have hw3 : IntKind.i64.wrap 0 = 0 := by decide
                  have hk4 : (0 : Int) < 2 := by decide
                  cases F0 with
                  | false =>
                    go_upto_region 21 with fail
                    try simp only [List.cons_append, List.nil_append]
                    refine wp_region_held_drew (S := fun wz => Below wr.heap.size wr wz) (by kernel_rfl) ((Below.refl _ _).drew) (fun hHeld => ?_)
                    refine take_at (some 92) (i := 0) (v := ?_) rfl rfl (by kernel_rfl) (by kernel_rfl) (by kernel_rfl) (fun _ _ _ h => h) (Or.inl ⟨by kernel_rfl, ?_⟩) hHeld ?_
                    rotate_left
                    · intro wz hSw; go_simp; try (with_reducible rfl)
                    try simp only [Act.put, List.setIfInBounds_toArray, List.set_cons_zero, List.set_cons_succ, List.getElem_toArray, List.getElem_cons_succ, List.getElem_cons_zero]
                    refine take_at (some 93) (i := 1) (v := ?_) rfl rfl (by kernel_rfl) (by kernel_rfl) (by kernel_rfl) (fun _ _ _ h => h) (Or.inl ⟨by kernel_rfl, ?_⟩) hHeld ?_
                    rotate_left
                    · intro wz hSw; go_simp; try (with_reducible rfl)
                    try simp only [Act.put, List.setIfInBounds_toArray, List.set_cons_zero, List.set_cons_succ, List.getElem_toArray, List.getElem_cons_succ, List.getElem_cons_zero]
                    refine take_at (some 94) (i := 2) (v := ?_) rfl rfl (by kernel_rfl) (by kernel_rfl) (by kernel_rfl) (fun _ _ _ h => h) (Or.inl ⟨by kernel_rfl, ?_⟩) hHeld ?_
                    rotate_left
                    · intro wz hSw; go_simp; try (with_reducible rfl)
                    try simp only [Act.put, List.setIfInBounds_toArray, List.set_cons_zero, List.set_cons_succ, List.getElem_toArray, List.getElem_cons_succ, List.getElem_cons_zero]
                    refine take_at (some 96) (i := 4) (v := ?_) rfl rfl (by kernel_rfl) (by kernel_rfl) (by kernel_rfl) (fun _ _ _ h => h) (Or.inl ⟨by kernel_rfl, ?_⟩) hHeld ?_
                    rotate_left
                    · intro wz hSw; go_simp; try (with_reducible rfl)
                    try simp only [Act.put, List.setIfInBounds_toArray, List.set_cons_zero, List.set_cons_succ, List.getElem_toArray, List.getElem_cons_succ, List.getElem_cons_zero]
                    refine take_at (some 97) (i := 5) (v := ?_) rfl rfl (by kernel_rfl) (by kernel_rfl) (by kernel_rfl) (fun _ _ _ h => h) (Or.inl ⟨by kernel_rfl, ?_⟩) hHeld ?_
                    rotate_left
                    · intro wz hSw; go_simp; try (with_reducible rfl)
                    try simp only [Act.put, List.setIfInBounds_toArray, List.set_cons_zero, List.set_cons_succ, List.getElem_toArray, List.getElem_cons_succ, List.getElem_cons_zero]
                    refine take_at (some 98) (i := 6) (v := ?_) rfl rfl (by kernel_rfl) (by kernel_rfl) (by kernel_rfl) (fun _ _ _ h => h) (Or.inl ⟨by kernel_rfl, ?_⟩) hHeld ?_
                    rotate_left
                    · intro wz hSw; go_simp; try (with_reducible rfl)
                    try simp only [Act.put, List.setIfInBounds_toArray, List.set_cons_zero, List.set_cons_succ, List.getElem_toArray, List.getElem_cons_succ, List.getElem_cons_zero]
                    refine take_at (some 101) (i := 9) (v := ?_) rfl rfl (by kernel_rfl) (by kernel_rfl) (by kernel_rfl) (fun _ _ _ h => h) (Or.inl ⟨by kernel_rfl, ?_⟩) hHeld ?_
                    rotate_left
                    · intro wz hSw; go_simp; try (with_reducible rfl)
                    try simp only [Act.put, List.setIfInBounds_toArray, List.set_cons_zero, List.set_cons_succ, List.getElem_toArray, List.getElem_cons_succ, List.getElem_cons_zero]
                    refine take_at (some 102) (i := 10) (v := ?_) rfl rfl (by kernel_rfl) (by kernel_rfl) (by kernel_rfl) (fun _ _ _ h => h) (Or.inl ⟨by kernel_rfl, ?_⟩) hHeld ?_
                    rotate_left
                    · intro wz hSw; go_simp; try (with_reducible rfl)
                    try simp only [Act.put, List.setIfInBounds_toArray, List.set_cons_zero, List.set_cons_succ, List.getElem_toArray, List.getElem_cons_succ, List.getElem_cons_zero]
                    refine take_at (some 103) (i := 11) (v := ?_) rfl rfl (by kernel_rfl) (by kernel_rfl) (by kernel_rfl) (fun _ _ _ h => h) (Or.inl ⟨by kernel_rfl, ?_⟩) hHeld ?_
                    rotate_left
                    · intro wz hSw; go_simp; try (with_reducible rfl)
                    try simp only [Act.put, List.setIfInBounds_toArray, List.set_cons_zero, List.set_cons_succ, List.getElem_toArray, List.getElem_cons_succ, List.getElem_cons_zero]
                    refine take_at (some 104) (i := 12) (v := ?_) rfl rfl (by kernel_rfl) (by kernel_rfl) (by kernel_rfl) (fun _ _ _ h => h) (Or.inl ⟨by kernel_rfl, ?_⟩) hHeld ?_
                    rotate_left
                    · intro wz hSw; have d9 : wz.cell? ⟨tb1, 0, none⟩ = some (.int .i64 (J0 : Int)) := (HT9.out.on hSw).b.cell 0; go_simp; try (with_reducible rfl)
                    try simp only [Act.put, List.setIfInBounds_toArray, List.set_cons_zero, List.set_cons_succ, List.getElem_toArray, List.getElem_cons_succ, List.getElem_cons_zero]
                    refine wpAnyH_ready (rs := [3]) (by kernel_rfl) (by simp) (AllReadyH.cons rfl (fun K hK => ?_) AllReadyH.nil)
                    rw [if_pos (by kernel_rfl)]
                    go_simp
                    refine (y_moved (HZ9.out.on ((Below.refl wr.heap.size wr).drew)) 1 a1 HA.out.1).mono ?_
                    rintro e y1 ⟨rfl, hy1⟩
                    try dsimp only
                    refine hK.out _ _ (((Below.refl wr.heap.size wr).drew).trans (hy1.mono ((Below.refl wr.heap.size wr).drew).size)) (fun hHeld => ?_)
                    try simp only [Act.put, List.setIfInBounds_toArray, List.set_cons_zero, List.set_cons_succ, List.getElem_toArray, List.getElem_cons_succ, List.getElem_cons_zero]
                    refine wpAnyH_ready (rs := [7]) (by kernel_rfl) (by simp) (AllReadyH.cons rfl (fun K hK => ?_) AllReadyH.nil)
                    rw [if_pos (by kernel_rfl)]
                    go_simp
                    refine (y_waits (HZ9.out.on (((Below.refl wr.heap.size wr).drew).trans (hy1.mono ((Below.refl wr.heap.size wr).drew).size))) HE2.out.1 hm6 1 a2 HA.out.2.1).mono ?_
                    rintro e y2 ⟨rfl, hy2⟩
                    try dsimp only
                    refine hK.out _ _ ((((Below.refl wr.heap.size wr).drew).trans (hy1.mono ((Below.refl wr.heap.size wr).drew).size)).trans (hy2.mono (((Below.refl wr.heap.size wr).drew).trans (hy1.mono ((Below.refl wr.heap.size wr).drew).size)).size)) (fun hHeld => ?_)
                    try simp only [Act.put, List.setIfInBounds_toArray, List.set_cons_zero, List.set_cons_succ, List.getElem_toArray, List.getElem_cons_succ, List.getElem_cons_zero]
                    refine take_at (some 100) (i := 8) (v := ?_) rfl rfl (by kernel_rfl) (by kernel_rfl) (by kernel_rfl) (fun _ _ _ h => h) (Or.inl ⟨by kernel_rfl, ?_⟩) hHeld ?_
                    rotate_left
                    · intro wz hSw; go_simp; try (with_reducible rfl)
                    try simp only [Act.put, List.setIfInBounds_toArray, List.set_cons_zero, List.set_cons_succ, List.getElem_toArray, List.getElem_cons_succ, List.getElem_cons_zero]
                    refine take_at (some 105) (i := 13) (v := ?_) rfl rfl (by kernel_rfl) (by kernel_rfl) (by kernel_rfl) (fun _ _ _ h => h) (Or.inl ⟨by kernel_rfl, ?_⟩) hHeld ?_
                    rotate_left
                    · intro wz hSw; go_simp; try (with_reducible rfl)
                    try simp only [Act.put, List.setIfInBounds_toArray, List.set_cons_zero, List.set_cons_succ, List.getElem_toArray, List.getElem_cons_succ, List.getElem_cons_zero]
                    refine take_at (some 106) (i := 14) (v := ?_) rfl rfl (by kernel_rfl) (by kernel_rfl) (by kernel_rfl) (fun _ _ _ h => h) (Or.inl ⟨by kernel_rfl, ?_⟩) hHeld ?_
                    rotate_left
                    · intro wz hSw; go_simp; try (with_reducible rfl)
                    try simp only [Act.put, List.setIfInBounds_toArray, List.set_cons_zero, List.set_cons_succ, List.getElem_toArray, List.getElem_cons_succ, List.getElem_cons_zero]
                    refine take_at (some 107) (i := 15) (v := ?_) rfl rfl (by kernel_rfl) (by kernel_rfl) (by kernel_rfl) (fun _ _ _ h => h) (Or.inl ⟨by kernel_rfl, ?_⟩) hHeld ?_
                    rotate_left
                    · intro wz hSw; go_simp; try (with_reducible rfl)
                    try simp only [Act.put, List.setIfInBounds_toArray, List.set_cons_zero, List.set_cons_succ, List.getElem_toArray, List.getElem_cons_succ, List.getElem_cons_zero]
                    refine take_at (some 108) (i := 16) (v := ?_) rfl rfl (by kernel_rfl) (by kernel_rfl) (by kernel_rfl) (fun _ _ _ h => h) (Or.inl ⟨by kernel_rfl, ?_⟩) hHeld ?_
                    rotate_left
                    · intro wz hSw; go_simp; try (with_reducible rfl)
                    try simp only [Act.put, List.setIfInBounds_toArray, List.set_cons_zero, List.set_cons_succ, List.getElem_toArray, List.getElem_cons_succ, List.getElem_cons_zero]
                    refine take_at (some 109) (i := 17) (v := ?_) rfl rfl (by kernel_rfl) (by kernel_rfl) (by kernel_rfl) (fun _ _ _ h => h) (Or.inl ⟨by kernel_rfl, ?_⟩) hHeld ?_
                    rotate_left
                    · intro wz hSw; go_simp; try (with_reducible rfl)
                    try simp only [Act.put, List.setIfInBounds_toArray, List.set_cons_zero, List.set_cons_succ, List.getElem_toArray, List.getElem_cons_succ, List.getElem_cons_zero]
                    refine take_at (some 110) (i := 18) (v := ?_) rfl rfl (by kernel_rfl) (by kernel_rfl) (by kernel_rfl) (fun _ _ _ h => h) (Or.inl ⟨by kernel_rfl, ?_⟩) hHeld ?_
                    rotate_left
                    · intro wz hSw; have g9 : wz.cell? ⟨tb2, 0, none⟩ = some (.bool false) := (HU9.out.on hSw).b.cell 0; go_simp; try (with_reducible rfl)
                    try simp only [Act.put, List.setIfInBounds_toArray, List.set_cons_zero, List.set_cons_succ, List.getElem_toArray, List.getElem_cons_succ, List.getElem_cons_zero]
                    refine take_at (some 111) (i := 19) (v := ?_) rfl rfl (by kernel_rfl) (by kernel_rfl) (by kernel_rfl) (fun _ _ _ h => h) (Or.inl ⟨by kernel_rfl, ?_⟩) hHeld ?_
                    rotate_left
                    · intro wz hSw; go_simp; try (with_reducible rfl)
                    try simp only [Act.put, List.setIfInBounds_toArray, List.set_cons_zero, List.set_cons_succ, List.getElem_toArray, List.getElem_cons_succ, List.getElem_cons_zero]
                    refine take_at (some 112) (i := 20) (v := ?_) rfl rfl (by kernel_rfl) (by kernel_rfl) (by kernel_rfl) (fun _ _ _ h => h) (Or.inl ⟨by kernel_rfl, ?_⟩) hHeld ?_
                    rotate_left
                    · intro wz hSw; go_simp; try (with_reducible rfl)
                    try simp only [Act.put, List.setIfInBounds_toArray, List.set_cons_zero, List.set_cons_succ, List.getElem_toArray, List.getElem_cons_succ, List.getElem_cons_zero]
                    refine take_at (some 113) (i := 21) (v := ?_) rfl rfl (by kernel_rfl) (by kernel_rfl) (by kernel_rfl) (fun _ _ _ h => h) (Or.inl ⟨by kernel_rfl, ?_⟩) hHeld ?_
                    rotate_left
                    · intro wz hSw; go_simp; try (with_reducible rfl)
                    try simp only [Act.put, List.setIfInBounds_toArray, List.set_cons_zero, List.set_cons_succ, List.getElem_toArray, List.getElem_cons_succ, List.getElem_cons_zero]
                    refine take_at (some 114) (i := 22) (v := ?_) rfl rfl (by kernel_rfl) (by kernel_rfl) (by kernel_rfl) (fun _ _ _ h => h) (Or.inl ⟨by kernel_rfl, ?_⟩) hHeld ?_
                    rotate_left
                    · intro wz hSw; go_simp; try (with_reducible rfl)
                    try simp only [Act.put, List.setIfInBounds_toArray, List.set_cons_zero, List.set_cons_succ, List.getElem_toArray, List.getElem_cons_succ, List.getElem_cons_zero]
                    refine take_at (some 116) (i := 24) (v := ?_) rfl rfl (by kernel_rfl) (by kernel_rfl) (by kernel_rfl) (fun _ _ _ h => h) (Or.inl ⟨by kernel_rfl, ?_⟩) hHeld ?_
                    rotate_left
                    · intro wz hSw; go_simp; try (with_reducible rfl)
                    try simp only [Act.put, List.setIfInBounds_toArray, List.set_cons_zero, List.set_cons_succ, List.getElem_toArray, List.getElem_cons_succ, List.getElem_cons_zero]
                    refine take_at (some 117) (i := 25) (v := ?_) rfl rfl (by kernel_rfl) (by kernel_rfl) (by kernel_rfl) (fun _ _ _ h => h) (Or.inl ⟨by kernel_rfl, ?_⟩) hHeld ?_
                    rotate_left
                    · intro wz hSw; go_simp; try (with_reducible rfl)
                    try simp only [Act.put, List.setIfInBounds_toArray, List.set_cons_zero, List.set_cons_succ, List.getElem_toArray, List.getElem_cons_succ, List.getElem_cons_zero]
                    refine take_at (some 118) (i := 26) (v := ?_) rfl rfl (by kernel_rfl) (by kernel_rfl) (by kernel_rfl) (fun _ _ _ h => h) (Or.inl ⟨by kernel_rfl, ?_⟩) hHeld ?_
                    rotate_left
                    · intro wz hSw; go_simp; try (with_reducible rfl)
                    try simp only [Act.put, List.setIfInBounds_toArray, List.set_cons_zero, List.set_cons_succ, List.getElem_toArray, List.getElem_cons_succ, List.getElem_cons_zero]
                    refine take_at (some 119) (i := 27) (v := ?_) rfl rfl (by kernel_rfl) (by kernel_rfl) (by kernel_rfl) (fun _ _ _ h => h) (Or.inl ⟨by kernel_rfl, ?_⟩) hHeld ?_
                    rotate_left
                    · intro wz hSw; go_simp; try (with_reducible rfl)
                    try simp only [Act.put, List.setIfInBounds_toArray, List.set_cons_zero, List.set_cons_succ, List.getElem_toArray, List.getElem_cons_succ, List.getElem_cons_zero]
                    refine take_at (some 120) (i := 28) (v := ?_) rfl rfl (by kernel_rfl) (by kernel_rfl) (by kernel_rfl) (fun _ _ _ h => h) (Or.inl ⟨by kernel_rfl, ?_⟩) hHeld ?_
                    rotate_left
                    · intro wz hSw; go_simp; try (with_reducible rfl)
                    try simp only [Act.put, List.setIfInBounds_toArray, List.set_cons_zero, List.set_cons_succ, List.getElem_toArray, List.getElem_cons_succ, List.getElem_cons_zero]
                    refine wpAnyH_ready (rs := [23]) (by kernel_rfl) (by simp) (AllReadyH.cons rfl (fun K hK => ?_) AllReadyH.nil)
                    rw [if_pos (by kernel_rfl)]
                    go_simp
                    refine (y_room (HZ9.out.on ((((Below.refl wr.heap.size wr).drew).trans (hy1.mono ((Below.refl wr.heap.size wr).drew).size)).trans (hy2.mono (((Below.refl wr.heap.size wr).drew).trans (hy1.mono ((Below.refl wr.heap.size wr).drew).size)).size))) HE2.out.1 hm6 0 a3 (HA.out.2.2.1 rfl)).mono ?_
                    rintro e y3 ⟨rfl, hy3⟩
                    try dsimp only
                    refine hK.out _ _ (((((Below.refl wr.heap.size wr).drew).trans (hy1.mono ((Below.refl wr.heap.size wr).drew).size)).trans (hy2.mono (((Below.refl wr.heap.size wr).drew).trans (hy1.mono ((Below.refl wr.heap.size wr).drew).size)).size)).trans (hy3.mono ((((Below.refl wr.heap.size wr).drew).trans (hy1.mono ((Below.refl wr.heap.size wr).drew).size)).trans (hy2.mono (((Below.refl wr.heap.size wr).drew).trans (hy1.mono ((Below.refl wr.heap.size wr).drew).size)).size)).size)) (fun hHeld => ?_)
                    try simp only [Act.put, List.setIfInBounds_toArray, List.set_cons_zero, List.set_cons_succ, List.getElem_toArray, List.getElem_cons_succ, List.getElem_cons_zero]
                    refine wpAnyH_ready (rs := [29]) (by kernel_rfl) (by simp) (AllReadyH.cons rfl (fun K hK => ?_) AllReadyH.nil)
                    rw [if_pos (by kernel_rfl)]
                    go_simp
                    refine (y_waits (HZ9.out.on (((((Below.refl wr.heap.size wr).drew).trans (hy1.mono ((Below.refl wr.heap.size wr).drew).size)).trans (hy2.mono (((Below.refl wr.heap.size wr).drew).trans (hy1.mono ((Below.refl wr.heap.size wr).drew).size)).size)).trans (hy3.mono ((((Below.refl wr.heap.size wr).drew).trans (hy1.mono ((Below.refl wr.heap.size wr).drew).size)).trans (hy2.mono (((Below.refl wr.heap.size wr).drew).trans (hy1.mono ((Below.refl wr.heap.size wr).drew).size)).size)).size))) HE2.out.1 hm6 1 a2 HA.out.2.1).mono ?_
                    rintro e y4 ⟨rfl, hy4⟩
                    try dsimp only
                    refine hK.out _ _ ((((((Below.refl wr.heap.size wr).drew).trans (hy1.mono ((Below.refl wr.heap.size wr).drew).size)).trans (hy2.mono (((Below.refl wr.heap.size wr).drew).trans (hy1.mono ((Below.refl wr.heap.size wr).drew).size)).size)).trans (hy3.mono ((((Below.refl wr.heap.size wr).drew).trans (hy1.mono ((Below.refl wr.heap.size wr).drew).size)).trans (hy2.mono (((Below.refl wr.heap.size wr).drew).trans (hy1.mono ((Below.refl wr.heap.size wr).drew).size)).size)).size)).trans (hy4.mono (((((Below.refl wr.heap.size wr).drew).trans (hy1.mono ((Below.refl wr.heap.size wr).drew).size)).trans (hy2.mono (((Below.refl wr.heap.size wr).drew).trans (hy1.mono ((Below.refl wr.heap.size wr).drew).size)).size)).trans (hy3.mono ((((Below.refl wr.heap.size wr).drew).trans (hy1.mono ((Below.refl wr.heap.size wr).drew).size)).trans (hy2.mono (((Below.refl wr.heap.size wr).drew).trans (hy1.mono ((Below.refl wr.heap.size wr).drew).size)).size)).size)).size)) (fun hHeld => ?_)
                    try simp only [Act.put, List.setIfInBounds_toArray, List.set_cons_zero, List.set_cons_succ, List.getElem_toArray, List.getElem_cons_succ, List.getElem_cons_zero]
                    refine take_at (some 122) (i := 30) (v := ?_) rfl rfl (by kernel_rfl) (by kernel_rfl) (by kernel_rfl) (fun _ _ _ h => h) (Or.inl ⟨by kernel_rfl, ?_⟩) hHeld ?_
                    rotate_left
                    · intro wz hSw; go_simp; try (with_reducible rfl)
                    try simp only [Act.put, List.setIfInBounds_toArray, List.set_cons_zero, List.set_cons_succ, List.getElem_toArray, List.getElem_cons_succ, List.getElem_cons_zero]
                    refine take_at (some 123) (i := 31) (v := ?_) rfl rfl (by kernel_rfl) (by kernel_rfl) (by kernel_rfl) (fun _ _ _ h => h) (Or.inl ⟨by kernel_rfl, ?_⟩) hHeld ?_
                    rotate_left
                    · intro wz hSw; go_simp; try (with_reducible rfl)
                    try simp only [Act.put, List.setIfInBounds_toArray, List.set_cons_zero, List.set_cons_succ, List.getElem_toArray, List.getElem_cons_succ, List.getElem_cons_zero]
                    refine take_at (some 124) (i := 32) (v := ?_) rfl rfl (by kernel_rfl) (by kernel_rfl) (by kernel_rfl) (fun _ _ _ h => h) (Or.inl ⟨by kernel_rfl, ?_⟩) hHeld ?_
                    rotate_left
                    · intro wz hSw; go_simp; try (with_reducible rfl)
                    try simp only [Act.put, List.setIfInBounds_toArray, List.set_cons_zero, List.set_cons_succ, List.getElem_toArray, List.getElem_cons_succ, List.getElem_cons_zero]
                    refine take_at (some 125) (i := 33) (v := ?_) rfl rfl (by kernel_rfl) (by kernel_rfl) (by kernel_rfl) (fun _ _ _ h => h) (Or.inl ⟨by kernel_rfl, ?_⟩) hHeld ?_
                    rotate_left
                    · intro wz hSw; go_simp; try (with_reducible rfl)
                    try simp only [Act.put, List.setIfInBounds_toArray, List.set_cons_zero, List.set_cons_succ, List.getElem_toArray, List.getElem_cons_succ, List.getElem_cons_zero]
                    refine take_at (some 126) (i := 34) (v := ?_) rfl rfl (by kernel_rfl) (by kernel_rfl) (by kernel_rfl) (fun _ _ _ h => h) (Or.inl ⟨by kernel_rfl, ?_⟩) hHeld ?_
                    rotate_left
                    · intro wz hSw; go_simp; try (with_reducible rfl)
                    try simp only [Act.put, List.setIfInBounds_toArray, List.set_cons_zero, List.set_cons_succ, List.getElem_toArray, List.getElem_cons_succ, List.getElem_cons_zero]
                    refine take_at (some 127) (i := 35) (v := ?_) rfl rfl (by kernel_rfl) (by kernel_rfl) (by kernel_rfl) (fun _ _ _ h => h) (Or.inl ⟨by kernel_rfl, ?_⟩) hHeld ?_
                    rotate_left
                    · intro wz hSw; go_simp; try (with_reducible rfl)
                    try simp only [Act.put, List.setIfInBounds_toArray, List.set_cons_zero, List.set_cons_succ, List.getElem_toArray, List.getElem_cons_succ, List.getElem_cons_zero]
                    refine take_at (some 128) (i := 36) (v := ?_) rfl rfl (by kernel_rfl) (by kernel_rfl) (by kernel_rfl) (fun _ _ _ h => h) (Or.inl ⟨by kernel_rfl, ?_⟩) hHeld ?_
                    rotate_left
                    · intro wz hSw; go_simp; try (with_reducible rfl)
                    try simp only [Act.put, List.setIfInBounds_toArray, List.set_cons_zero, List.set_cons_succ, List.getElem_toArray, List.getElem_cons_succ, List.getElem_cons_zero]
                    refine take_at (some 129) (i := 37) (v := ?_) rfl rfl (by kernel_rfl) (by kernel_rfl) (by kernel_rfl) (fun _ _ _ h => h) (Or.inl ⟨by kernel_rfl, ?_⟩) hHeld ?_
                    rotate_left
                    · intro wz hSw; go_simp; try (with_reducible rfl)
                    try simp only [Act.put, List.setIfInBounds_toArray, List.set_cons_zero, List.set_cons_succ, List.getElem_toArray, List.getElem_cons_succ, List.getElem_cons_zero]
                    refine take_at (some 130) (i := 38) (v := ?_) rfl rfl (by kernel_rfl) (by kernel_rfl) (by kernel_rfl) (fun _ _ _ h => h) (Or.inl ⟨by kernel_rfl, ?_⟩) hHeld ?_
                    rotate_left
                    · intro wz hSw; have g9 : wz.cell? ⟨tb2, 0, none⟩ = some (.bool false) := (HU9.out.on hSw).b.cell 0; go_simp; try (with_reducible rfl)
                    try simp only [Act.put, List.setIfInBounds_toArray, List.set_cons_zero, List.set_cons_succ, List.getElem_toArray, List.getElem_cons_succ, List.getElem_cons_zero]
                    refine take_at (some 131) (i := 39) (v := ?_) rfl rfl (by kernel_rfl) (by kernel_rfl) (by kernel_rfl) (fun _ _ _ h => h) (Or.inl ⟨by kernel_rfl, ?_⟩) hHeld ?_
                    rotate_left
                    · intro wz hSw; go_simp; try (with_reducible rfl)
                    try simp only [Act.put, List.setIfInBounds_toArray, List.set_cons_zero, List.set_cons_succ, List.getElem_toArray, List.getElem_cons_succ, List.getElem_cons_zero]
                    refine take_at (some 132) (i := 40) (v := undef) rfl rfl (by kernel_rfl) (by kernel_rfl) (by kernel_rfl) (fun _ _ _ h => h) (Or.inr ⟨by kernel_rfl, rfl⟩) hHeld ?_
                    try simp only [Act.put, List.setIfInBounds_toArray, List.set_cons_zero, List.set_cons_succ, List.getElem_toArray, List.getElem_cons_succ, List.getElem_cons_zero]
                    refine take_at (some 133) (i := 41) (v := undef) rfl rfl (by kernel_rfl) (by kernel_rfl) (by kernel_rfl) (fun _ _ _ h => h) (Or.inr ⟨by kernel_rfl, rfl⟩) hHeld ?_
                    try simp only [Act.put, List.setIfInBounds_toArray, List.set_cons_zero, List.set_cons_succ, List.getElem_toArray, List.getElem_cons_succ, List.getElem_cons_zero]
                    refine take_at (some 134) (i := 42) (v := undef) rfl rfl (by kernel_rfl) (by kernel_rfl) (by kernel_rfl) (fun _ _ _ h => h) (Or.inr ⟨by kernel_rfl, rfl⟩) hHeld ?_
                    try simp only [Act.put, List.setIfInBounds_toArray, List.set_cons_zero, List.set_cons_succ, List.getElem_toArray, List.getElem_cons_succ, List.getElem_cons_zero]
                    refine take_at (some 135) (i := 43) (v := undef) rfl rfl (by kernel_rfl) (by kernel_rfl) (by kernel_rfl) (fun _ _ _ h => h) (Or.inr ⟨by kernel_rfl, rfl⟩) hHeld ?_
                    try simp only [Act.put, List.setIfInBounds_toArray, List.set_cons_zero, List.set_cons_succ, List.getElem_toArray, List.getElem_cons_succ, List.getElem_cons_zero]
                    refine take_at (some 136) (i := 44) (v := ?_) rfl rfl (by kernel_rfl) (by kernel_rfl) (by kernel_rfl) (fun _ _ _ h => h) (Or.inl ⟨by kernel_rfl, ?_⟩) hHeld ?_
                    rotate_left
                    · intro wz hSw; go_simp; try (with_reducible rfl)
                    try simp only [Act.put, List.setIfInBounds_toArray, List.set_cons_zero, List.set_cons_succ, List.getElem_toArray, List.getElem_cons_succ, List.getElem_cons_zero]
                    refine take_at (some 137) (i := 45) (v := ?_) rfl rfl (by kernel_rfl) (by kernel_rfl) (by kernel_rfl) (fun _ _ _ h => h) (Or.inl ⟨by kernel_rfl, ?_⟩) hHeld ?_
                    rotate_left
                    · intro wz hSw; go_simp; try (with_reducible rfl)
                    try simp only [Act.put, List.setIfInBounds_toArray, List.set_cons_zero, List.set_cons_succ, List.getElem_toArray, List.getElem_cons_succ, List.getElem_cons_zero]
                    refine wpAnyH_done (by kernel_rfl) ?_ _
                    have hbb := ((((((Below.refl wr.heap.size wr).drew).trans (hy1.mono ((Below.refl wr.heap.size wr).drew).size)).trans (hy2.mono (((Below.refl wr.heap.size wr).drew).trans (hy1.mono ((Below.refl wr.heap.size wr).drew).size)).size)).trans (hy3.mono ((((Below.refl wr.heap.size wr).drew).trans (hy1.mono ((Below.refl wr.heap.size wr).drew).size)).trans (hy2.mono (((Below.refl wr.heap.size wr).drew).trans (hy1.mono ((Below.refl wr.heap.size wr).drew).size)).size)).size)).trans (hy4.mono (((((Below.refl wr.heap.size wr).drew).trans (hy1.mono ((Below.refl wr.heap.size wr).drew).size)).trans (hy2.mono (((Below.refl wr.heap.size wr).drew).trans (hy1.mono ((Below.refl wr.heap.size wr).drew).size)).size)).trans (hy3.mono ((((Below.refl wr.heap.size wr).drew).trans (hy1.mono ((Below.refl wr.heap.size wr).drew).size)).trans (hy2.mono (((Below.refl wr.heap.size wr).drew).trans (hy1.mono ((Below.refl wr.heap.size wr).drew).size)).size)).size)).size))
                    have HZa := Lib.hid (HZ9.out.on hbb)
                    have HTa := Lib.hid (HT9.out.on hbb)
                    have HUa := Lib.hid (HU9.out.on hbb)
                    clear hbb hHeld
                    go_wp2_with fail
                    go_roundw
                    case rel => exact ⟨1, by omega, by first | rfl | go_num, HZa, HTa, HUa⟩
                    case measure => simp [intOf] <;> omega
                  | true =>
                    go_upto_region 21 with fail
                    try simp only [List.cons_append, List.nil_append]
                    refine wp_region_held_drew (S := fun wz => Below wr.heap.size wr wz) (by kernel_rfl) ((Below.refl _ _).drew) (fun hHeld => ?_)
                    refine take_at (some 92) (i := 0) (v := ?_) rfl rfl (by kernel_rfl) (by kernel_rfl) (by kernel_rfl) (fun _ _ _ h => h) (Or.inl ⟨by kernel_rfl, ?_⟩) hHeld ?_
                    rotate_left
                    · intro wz hSw; go_simp; try (with_reducible rfl)
                    try simp only [Act.put, List.setIfInBounds_toArray, List.set_cons_zero, List.set_cons_succ, List.getElem_toArray, List.getElem_cons_succ, List.getElem_cons_zero]
                    refine take_at (some 93) (i := 1) (v := ?_) rfl rfl (by kernel_rfl) (by kernel_rfl) (by kernel_rfl) (fun _ _ _ h => h) (Or.inl ⟨by kernel_rfl, ?_⟩) hHeld ?_
                    rotate_left
                    · intro wz hSw; go_simp; try (with_reducible rfl)
                    try simp only [Act.put, List.setIfInBounds_toArray, List.set_cons_zero, List.set_cons_succ, List.getElem_toArray, List.getElem_cons_succ, List.getElem_cons_zero]
                    refine take_at (some 94) (i := 2) (v := ?_) rfl rfl (by kernel_rfl) (by kernel_rfl) (by kernel_rfl) (fun _ _ _ h => h) (Or.inl ⟨by kernel_rfl, ?_⟩) hHeld ?_
                    rotate_left
                    · intro wz hSw; go_simp; try (with_reducible rfl)
                    try simp only [Act.put, List.setIfInBounds_toArray, List.set_cons_zero, List.set_cons_succ, List.getElem_toArray, List.getElem_cons_succ, List.getElem_cons_zero]
                    refine take_at (some 96) (i := 4) (v := ?_) rfl rfl (by kernel_rfl) (by kernel_rfl) (by kernel_rfl) (fun _ _ _ h => h) (Or.inl ⟨by kernel_rfl, ?_⟩) hHeld ?_
                    rotate_left
                    · intro wz hSw; go_simp; try (with_reducible rfl)
                    try simp only [Act.put, List.setIfInBounds_toArray, List.set_cons_zero, List.set_cons_succ, List.getElem_toArray, List.getElem_cons_succ, List.getElem_cons_zero]
                    refine take_at (some 97) (i := 5) (v := ?_) rfl rfl (by kernel_rfl) (by kernel_rfl) (by kernel_rfl) (fun _ _ _ h => h) (Or.inl ⟨by kernel_rfl, ?_⟩) hHeld ?_
                    rotate_left
                    · intro wz hSw; go_simp; try (with_reducible rfl)
                    try simp only [Act.put, List.setIfInBounds_toArray, List.set_cons_zero, List.set_cons_succ, List.getElem_toArray, List.getElem_cons_succ, List.getElem_cons_zero]
                    refine take_at (some 98) (i := 6) (v := ?_) rfl rfl (by kernel_rfl) (by kernel_rfl) (by kernel_rfl) (fun _ _ _ h => h) (Or.inl ⟨by kernel_rfl, ?_⟩) hHeld ?_
                    rotate_left
                    · intro wz hSw; go_simp; try (with_reducible rfl)
                    try simp only [Act.put, List.setIfInBounds_toArray, List.set_cons_zero, List.set_cons_succ, List.getElem_toArray, List.getElem_cons_succ, List.getElem_cons_zero]
                    refine take_at (some 101) (i := 9) (v := ?_) rfl rfl (by kernel_rfl) (by kernel_rfl) (by kernel_rfl) (fun _ _ _ h => h) (Or.inl ⟨by kernel_rfl, ?_⟩) hHeld ?_
                    rotate_left
                    · intro wz hSw; go_simp; try (with_reducible rfl)
                    try simp only [Act.put, List.setIfInBounds_toArray, List.set_cons_zero, List.set_cons_succ, List.getElem_toArray, List.getElem_cons_succ, List.getElem_cons_zero]
                    refine take_at (some 102) (i := 10) (v := ?_) rfl rfl (by kernel_rfl) (by kernel_rfl) (by kernel_rfl) (fun _ _ _ h => h) (Or.inl ⟨by kernel_rfl, ?_⟩) hHeld ?_
                    rotate_left
                    · intro wz hSw; go_simp; try (with_reducible rfl)
                    try simp only [Act.put, List.setIfInBounds_toArray, List.set_cons_zero, List.set_cons_succ, List.getElem_toArray, List.getElem_cons_succ, List.getElem_cons_zero]
                    refine take_at (some 103) (i := 11) (v := ?_) rfl rfl (by kernel_rfl) (by kernel_rfl) (by kernel_rfl) (fun _ _ _ h => h) (Or.inl ⟨by kernel_rfl, ?_⟩) hHeld ?_
                    rotate_left
                    · intro wz hSw; go_simp; try (with_reducible rfl)
                    try simp only [Act.put, List.setIfInBounds_toArray, List.set_cons_zero, List.set_cons_succ, List.getElem_toArray, List.getElem_cons_succ, List.getElem_cons_zero]
                    refine take_at (some 104) (i := 12) (v := ?_) rfl rfl (by kernel_rfl) (by kernel_rfl) (by kernel_rfl) (fun _ _ _ h => h) (Or.inl ⟨by kernel_rfl, ?_⟩) hHeld ?_
                    rotate_left
                    · intro wz hSw; have d9 : wz.cell? ⟨tb1, 0, none⟩ = some (.int .i64 (J0 : Int)) := (HT9.out.on hSw).b.cell 0; go_simp; try (with_reducible rfl)
                    try simp only [Act.put, List.setIfInBounds_toArray, List.set_cons_zero, List.set_cons_succ, List.getElem_toArray, List.getElem_cons_succ, List.getElem_cons_zero]
                    refine wpAnyH_ready (rs := [3]) (by kernel_rfl) (by simp) (AllReadyH.cons rfl (fun K hK => ?_) AllReadyH.nil)
                    rw [if_pos (by kernel_rfl)]
                    go_simp
                    refine (y_moved (HZ9.out.on ((Below.refl wr.heap.size wr).drew)) 1 a1 HA.out.1).mono ?_
                    rintro e y1 ⟨rfl, hy1⟩
                    try dsimp only
                    refine hK.out _ _ (((Below.refl wr.heap.size wr).drew).trans (hy1.mono ((Below.refl wr.heap.size wr).drew).size)) (fun hHeld => ?_)
                    try simp only [Act.put, List.setIfInBounds_toArray, List.set_cons_zero, List.set_cons_succ, List.getElem_toArray, List.getElem_cons_succ, List.getElem_cons_zero]
                    refine wpAnyH_ready (rs := [7]) (by kernel_rfl) (by simp) (AllReadyH.cons rfl (fun K hK => ?_) AllReadyH.nil)
                    rw [if_pos (by kernel_rfl)]
                    go_simp
                    refine (y_waits (HZ9.out.on (((Below.refl wr.heap.size wr).drew).trans (hy1.mono ((Below.refl wr.heap.size wr).drew).size))) HE2.out.1 hm6 1 a2 HA.out.2.1).mono ?_
                    rintro e y2 ⟨rfl, hy2⟩
                    try dsimp only
                    refine hK.out _ _ ((((Below.refl wr.heap.size wr).drew).trans (hy1.mono ((Below.refl wr.heap.size wr).drew).size)).trans (hy2.mono (((Below.refl wr.heap.size wr).drew).trans (hy1.mono ((Below.refl wr.heap.size wr).drew).size)).size)) (fun hHeld => ?_)
                    try simp only [Act.put, List.setIfInBounds_toArray, List.set_cons_zero, List.set_cons_succ, List.getElem_toArray, List.getElem_cons_succ, List.getElem_cons_zero]
                    refine take_at (some 100) (i := 8) (v := ?_) rfl rfl (by kernel_rfl) (by kernel_rfl) (by kernel_rfl) (fun _ _ _ h => h) (Or.inl ⟨by kernel_rfl, ?_⟩) hHeld ?_
                    rotate_left
                    · intro wz hSw; go_simp; try (with_reducible rfl)
                    try simp only [Act.put, List.setIfInBounds_toArray, List.set_cons_zero, List.set_cons_succ, List.getElem_toArray, List.getElem_cons_succ, List.getElem_cons_zero]
                    refine take_at (some 105) (i := 13) (v := ?_) rfl rfl (by kernel_rfl) (by kernel_rfl) (by kernel_rfl) (fun _ _ _ h => h) (Or.inl ⟨by kernel_rfl, ?_⟩) hHeld ?_
                    rotate_left
                    · intro wz hSw; go_simp; try (with_reducible rfl)
                    try simp only [Act.put, List.setIfInBounds_toArray, List.set_cons_zero, List.set_cons_succ, List.getElem_toArray, List.getElem_cons_succ, List.getElem_cons_zero]
                    refine take_at (some 106) (i := 14) (v := ?_) rfl rfl (by kernel_rfl) (by kernel_rfl) (by kernel_rfl) (fun _ _ _ h => h) (Or.inl ⟨by kernel_rfl, ?_⟩) hHeld ?_
                    rotate_left
                    · intro wz hSw; go_simp; try (with_reducible rfl)
                    try simp only [Act.put, List.setIfInBounds_toArray, List.set_cons_zero, List.set_cons_succ, List.getElem_toArray, List.getElem_cons_succ, List.getElem_cons_zero]
                    refine take_at (some 107) (i := 15) (v := ?_) rfl rfl (by kernel_rfl) (by kernel_rfl) (by kernel_rfl) (fun _ _ _ h => h) (Or.inl ⟨by kernel_rfl, ?_⟩) hHeld ?_
                    rotate_left
                    · intro wz hSw; go_simp; try (with_reducible rfl)
                    try simp only [Act.put, List.setIfInBounds_toArray, List.set_cons_zero, List.set_cons_succ, List.getElem_toArray, List.getElem_cons_succ, List.getElem_cons_zero]
                    refine take_at (some 108) (i := 16) (v := ?_) rfl rfl (by kernel_rfl) (by kernel_rfl) (by kernel_rfl) (fun _ _ _ h => h) (Or.inl ⟨by kernel_rfl, ?_⟩) hHeld ?_
                    rotate_left
                    · intro wz hSw; go_simp; try (with_reducible rfl)
                    try simp only [Act.put, List.setIfInBounds_toArray, List.set_cons_zero, List.set_cons_succ, List.getElem_toArray, List.getElem_cons_succ, List.getElem_cons_zero]
                    refine take_at (some 109) (i := 17) (v := ?_) rfl rfl (by kernel_rfl) (by kernel_rfl) (by kernel_rfl) (fun _ _ _ h => h) (Or.inl ⟨by kernel_rfl, ?_⟩) hHeld ?_
                    rotate_left
                    · intro wz hSw; go_simp; try (with_reducible rfl)
                    try simp only [Act.put, List.setIfInBounds_toArray, List.set_cons_zero, List.set_cons_succ, List.getElem_toArray, List.getElem_cons_succ, List.getElem_cons_zero]
                    refine take_at (some 110) (i := 18) (v := ?_) rfl rfl (by kernel_rfl) (by kernel_rfl) (by kernel_rfl) (fun _ _ _ h => h) (Or.inl ⟨by kernel_rfl, ?_⟩) hHeld ?_
                    rotate_left
                    · intro wz hSw; have g9 : wz.cell? ⟨tb2, 0, none⟩ = some (.bool true) := (HU9.out.on hSw).b.cell 0; go_simp; try (with_reducible rfl)
                    try simp only [Act.put, List.setIfInBounds_toArray, List.set_cons_zero, List.set_cons_succ, List.getElem_toArray, List.getElem_cons_succ, List.getElem_cons_zero]
                    refine take_at (some 111) (i := 19) (v := ?_) rfl rfl (by kernel_rfl) (by kernel_rfl) (by kernel_rfl) (fun _ _ _ h => h) (Or.inl ⟨by kernel_rfl, ?_⟩) hHeld ?_
                    rotate_left
                    · intro wz hSw; go_simp; try (with_reducible rfl)
                    try simp only [Act.put, List.setIfInBounds_toArray, List.set_cons_zero, List.set_cons_succ, List.getElem_toArray, List.getElem_cons_succ, List.getElem_cons_zero]
                    refine take_at (some 112) (i := 20) (v := ?_) rfl rfl (by kernel_rfl) (by kernel_rfl) (by kernel_rfl) (fun _ _ _ h => h) (Or.inl ⟨by kernel_rfl, ?_⟩) hHeld ?_
                    rotate_left
                    · intro wz hSw; go_simp; try (with_reducible rfl)
                    try simp only [Act.put, List.setIfInBounds_toArray, List.set_cons_zero, List.set_cons_succ, List.getElem_toArray, List.getElem_cons_succ, List.getElem_cons_zero]
                    refine take_at (some 113) (i := 21) (v := undef) rfl rfl (by kernel_rfl) (by kernel_rfl) (by kernel_rfl) (fun _ _ _ h => h) (Or.inr ⟨by kernel_rfl, rfl⟩) hHeld ?_
                    try simp only [Act.put, List.setIfInBounds_toArray, List.set_cons_zero, List.set_cons_succ, List.getElem_toArray, List.getElem_cons_succ, List.getElem_cons_zero]
                    refine take_at (some 114) (i := 22) (v := undef) rfl rfl (by kernel_rfl) (by kernel_rfl) (by kernel_rfl) (fun _ _ _ h => h) (Or.inr ⟨by kernel_rfl, rfl⟩) hHeld ?_
                    try simp only [Act.put, List.setIfInBounds_toArray, List.set_cons_zero, List.set_cons_succ, List.getElem_toArray, List.getElem_cons_succ, List.getElem_cons_zero]
                    refine take_at (some 115) (i := 23) (v := undef) rfl rfl (by kernel_rfl) (by kernel_rfl) (by kernel_rfl) (fun _ _ _ h => h) (Or.inr ⟨by kernel_rfl, rfl⟩) hHeld ?_
                    try simp only [Act.put, List.setIfInBounds_toArray, List.set_cons_zero, List.set_cons_succ, List.getElem_toArray, List.getElem_cons_succ, List.getElem_cons_zero]
                    refine take_at (some 116) (i := 24) (v := undef) rfl rfl (by kernel_rfl) (by kernel_rfl) (by kernel_rfl) (fun _ _ _ h => h) (Or.inr ⟨by kernel_rfl, rfl⟩) hHeld ?_
                    try simp only [Act.put, List.setIfInBounds_toArray, List.set_cons_zero, List.set_cons_succ, List.getElem_toArray, List.getElem_cons_succ, List.getElem_cons_zero]
                    refine take_at (some 117) (i := 25) (v := undef) rfl rfl (by kernel_rfl) (by kernel_rfl) (by kernel_rfl) (fun _ _ _ h => h) (Or.inr ⟨by kernel_rfl, rfl⟩) hHeld ?_
                    try simp only [Act.put, List.setIfInBounds_toArray, List.set_cons_zero, List.set_cons_succ, List.getElem_toArray, List.getElem_cons_succ, List.getElem_cons_zero]
                    refine take_at (some 118) (i := 26) (v := undef) rfl rfl (by kernel_rfl) (by kernel_rfl) (by kernel_rfl) (fun _ _ _ h => h) (Or.inr ⟨by kernel_rfl, rfl⟩) hHeld ?_
                    try simp only [Act.put, List.setIfInBounds_toArray, List.set_cons_zero, List.set_cons_succ, List.getElem_toArray, List.getElem_cons_succ, List.getElem_cons_zero]
                    refine take_at (some 119) (i := 27) (v := undef) rfl rfl (by kernel_rfl) (by kernel_rfl) (by kernel_rfl) (fun _ _ _ h => h) (Or.inr ⟨by kernel_rfl, rfl⟩) hHeld ?_
                    try simp only [Act.put, List.setIfInBounds_toArray, List.set_cons_zero, List.set_cons_succ, List.getElem_toArray, List.getElem_cons_succ, List.getElem_cons_zero]
                    refine take_at (some 120) (i := 28) (v := undef) rfl rfl (by kernel_rfl) (by kernel_rfl) (by kernel_rfl) (fun _ _ _ h => h) (Or.inr ⟨by kernel_rfl, rfl⟩) hHeld ?_
                    try simp only [Act.put, List.setIfInBounds_toArray, List.set_cons_zero, List.set_cons_succ, List.getElem_toArray, List.getElem_cons_succ, List.getElem_cons_zero]
                    refine take_at (some 121) (i := 29) (v := undef) rfl rfl (by kernel_rfl) (by kernel_rfl) (by kernel_rfl) (fun _ _ _ h => h) (Or.inr ⟨by kernel_rfl, rfl⟩) hHeld ?_
                    try simp only [Act.put, List.setIfInBounds_toArray, List.set_cons_zero, List.set_cons_succ, List.getElem_toArray, List.getElem_cons_succ, List.getElem_cons_zero]
                    refine take_at (some 122) (i := 30) (v := undef) rfl rfl (by kernel_rfl) (by kernel_rfl) (by kernel_rfl) (fun _ _ _ h => h) (Or.inr ⟨by kernel_rfl, rfl⟩) hHeld ?_
                    try simp only [Act.put, List.setIfInBounds_toArray, List.set_cons_zero, List.set_cons_succ, List.getElem_toArray, List.getElem_cons_succ, List.getElem_cons_zero]
                    refine take_at (some 123) (i := 31) (v := undef) rfl rfl (by kernel_rfl) (by kernel_rfl) (by kernel_rfl) (fun _ _ _ h => h) (Or.inr ⟨by kernel_rfl, rfl⟩) hHeld ?_
                    try simp only [Act.put, List.setIfInBounds_toArray, List.set_cons_zero, List.set_cons_succ, List.getElem_toArray, List.getElem_cons_succ, List.getElem_cons_zero]
                    refine take_at (some 124) (i := 32) (v := ?_) rfl rfl (by kernel_rfl) (by kernel_rfl) (by kernel_rfl) (fun _ _ _ h => h) (Or.inl ⟨by kernel_rfl, ?_⟩) hHeld ?_
                    rotate_left
                    · intro wz hSw; go_simp; try (with_reducible rfl)
                    try simp only [Act.put, List.setIfInBounds_toArray, List.set_cons_zero, List.set_cons_succ, List.getElem_toArray, List.getElem_cons_succ, List.getElem_cons_zero]
                    refine take_at (some 125) (i := 33) (v := ?_) rfl rfl (by kernel_rfl) (by kernel_rfl) (by kernel_rfl) (fun _ _ _ h => h) (Or.inl ⟨by kernel_rfl, ?_⟩) hHeld ?_
                    rotate_left
                    · intro wz hSw; go_simp; try (with_reducible rfl)
                    try simp only [Act.put, List.setIfInBounds_toArray, List.set_cons_zero, List.set_cons_succ, List.getElem_toArray, List.getElem_cons_succ, List.getElem_cons_zero]
                    refine take_at (some 126) (i := 34) (v := ?_) rfl rfl (by kernel_rfl) (by kernel_rfl) (by kernel_rfl) (fun _ _ _ h => h) (Or.inl ⟨by kernel_rfl, ?_⟩) hHeld ?_
                    rotate_left
                    · intro wz hSw; go_simp; try (with_reducible rfl)
                    try simp only [Act.put, List.setIfInBounds_toArray, List.set_cons_zero, List.set_cons_succ, List.getElem_toArray, List.getElem_cons_succ, List.getElem_cons_zero]
                    refine take_at (some 127) (i := 35) (v := ?_) rfl rfl (by kernel_rfl) (by kernel_rfl) (by kernel_rfl) (fun _ _ _ h => h) (Or.inl ⟨by kernel_rfl, ?_⟩) hHeld ?_
                    rotate_left
                    · intro wz hSw; go_simp; try (with_reducible rfl)
                    try simp only [Act.put, List.setIfInBounds_toArray, List.set_cons_zero, List.set_cons_succ, List.getElem_toArray, List.getElem_cons_succ, List.getElem_cons_zero]
                    refine take_at (some 128) (i := 36) (v := ?_) rfl rfl (by kernel_rfl) (by kernel_rfl) (by kernel_rfl) (fun _ _ _ h => h) (Or.inl ⟨by kernel_rfl, ?_⟩) hHeld ?_
                    rotate_left
                    · intro wz hSw; go_simp; try (with_reducible rfl)
                    try simp only [Act.put, List.setIfInBounds_toArray, List.set_cons_zero, List.set_cons_succ, List.getElem_toArray, List.getElem_cons_succ, List.getElem_cons_zero]
                    refine take_at (some 129) (i := 37) (v := ?_) rfl rfl (by kernel_rfl) (by kernel_rfl) (by kernel_rfl) (fun _ _ _ h => h) (Or.inl ⟨by kernel_rfl, ?_⟩) hHeld ?_
                    rotate_left
                    · intro wz hSw; go_simp; try (with_reducible rfl)
                    try simp only [Act.put, List.setIfInBounds_toArray, List.set_cons_zero, List.set_cons_succ, List.getElem_toArray, List.getElem_cons_succ, List.getElem_cons_zero]
                    refine take_at (some 130) (i := 38) (v := ?_) rfl rfl (by kernel_rfl) (by kernel_rfl) (by kernel_rfl) (fun _ _ _ h => h) (Or.inl ⟨by kernel_rfl, ?_⟩) hHeld ?_
                    rotate_left
                    · intro wz hSw; have g9 : wz.cell? ⟨tb2, 0, none⟩ = some (.bool true) := (HU9.out.on hSw).b.cell 0; go_simp; try (with_reducible rfl)
                    try simp only [Act.put, List.setIfInBounds_toArray, List.set_cons_zero, List.set_cons_succ, List.getElem_toArray, List.getElem_cons_succ, List.getElem_cons_zero]
                    refine take_at (some 131) (i := 39) (v := ?_) rfl rfl (by kernel_rfl) (by kernel_rfl) (by kernel_rfl) (fun _ _ _ h => h) (Or.inl ⟨by kernel_rfl, ?_⟩) hHeld ?_
                    rotate_left
                    · intro wz hSw; go_simp; try (with_reducible rfl)
                    try simp only [Act.put, List.setIfInBounds_toArray, List.set_cons_zero, List.set_cons_succ, List.getElem_toArray, List.getElem_cons_succ, List.getElem_cons_zero]
                    refine take_at (some 132) (i := 40) (v := ?_) rfl rfl (by kernel_rfl) (by kernel_rfl) (by kernel_rfl) (fun _ _ _ h => h) (Or.inl ⟨by kernel_rfl, ?_⟩) hHeld ?_
                    rotate_left
                    · intro wz hSw; go_simp; try (with_reducible rfl)
                    try simp only [Act.put, List.setIfInBounds_toArray, List.set_cons_zero, List.set_cons_succ, List.getElem_toArray, List.getElem_cons_succ, List.getElem_cons_zero]
                    refine take_at (some 133) (i := 41) (v := ?_) rfl rfl (by kernel_rfl) (by kernel_rfl) (by kernel_rfl) (fun _ _ _ h => h) (Or.inl ⟨by kernel_rfl, ?_⟩) hHeld ?_
                    rotate_left
                    · intro wz hSw; go_simp; try (with_reducible rfl)
                    try simp only [Act.put, List.setIfInBounds_toArray, List.set_cons_zero, List.set_cons_succ, List.getElem_toArray, List.getElem_cons_succ, List.getElem_cons_zero]
                    refine wpAnyH_ready (rs := [42]) (by kernel_rfl) (by simp) (AllReadyH.cons rfl (fun K hK => ?_) AllReadyH.nil)
                    rw [if_pos (by kernel_rfl)]
                    go_simp
                    refine (y_room (HZ9.out.on ((((Below.refl wr.heap.size wr).drew).trans (hy1.mono ((Below.refl wr.heap.size wr).drew).size)).trans (hy2.mono (((Below.refl wr.heap.size wr).drew).trans (hy1.mono ((Below.refl wr.heap.size wr).drew).size)).size))) HE2.out.1 hm6 0 0 (HA.out.2.2.2 rfl)).mono ?_
                    rintro e y5 ⟨rfl, hy5⟩
                    try dsimp only
                    refine hK.out _ _ (((((Below.refl wr.heap.size wr).drew).trans (hy1.mono ((Below.refl wr.heap.size wr).drew).size)).trans (hy2.mono (((Below.refl wr.heap.size wr).drew).trans (hy1.mono ((Below.refl wr.heap.size wr).drew).size)).size)).trans (hy5.mono ((((Below.refl wr.heap.size wr).drew).trans (hy1.mono ((Below.refl wr.heap.size wr).drew).size)).trans (hy2.mono (((Below.refl wr.heap.size wr).drew).trans (hy1.mono ((Below.refl wr.heap.size wr).drew).size)).size)).size)) (fun hHeld => ?_)
                    try simp only [Act.put, List.setIfInBounds_toArray, List.set_cons_zero, List.set_cons_succ, List.getElem_toArray, List.getElem_cons_succ, List.getElem_cons_zero]
                    refine take_at (some 135) (i := 43) (v := ?_) rfl rfl (by kernel_rfl) (by kernel_rfl) (by kernel_rfl) (fun _ _ _ h => h) (Or.inl ⟨by kernel_rfl, ?_⟩) hHeld ?_
                    rotate_left
                    · intro wz hSw; go_simp; try (with_reducible rfl)
                    try simp only [Act.put, List.setIfInBounds_toArray, List.set_cons_zero, List.set_cons_succ, List.getElem_toArray, List.getElem_cons_succ, List.getElem_cons_zero]
                    refine take_at (some 136) (i := 44) (v := ?_) rfl rfl (by kernel_rfl) (by kernel_rfl) (by kernel_rfl) (fun _ _ _ h => h) (Or.inl ⟨by kernel_rfl, ?_⟩) hHeld ?_
                    rotate_left
                    · intro wz hSw; go_simp; try (with_reducible rfl)
                    try simp only [Act.put, List.setIfInBounds_toArray, List.set_cons_zero, List.set_cons_succ, List.getElem_toArray, List.getElem_cons_succ, List.getElem_cons_zero]
                    refine take_at (some 137) (i := 45) (v := ?_) rfl rfl (by kernel_rfl) (by kernel_rfl) (by kernel_rfl) (fun _ _ _ h => h) (Or.inl ⟨by kernel_rfl, ?_⟩) hHeld ?_
                    rotate_left
                    · intro wz hSw; go_simp; try (with_reducible rfl)
                    try simp only [Act.put, List.setIfInBounds_toArray, List.set_cons_zero, List.set_cons_succ, List.getElem_toArray, List.getElem_cons_succ, List.getElem_cons_zero]
                    refine wpAnyH_done (by kernel_rfl) ?_ _
                    have hbb := (((((Below.refl wr.heap.size wr).drew).trans (hy1.mono ((Below.refl wr.heap.size wr).drew).size)).trans (hy2.mono (((Below.refl wr.heap.size wr).drew).trans (hy1.mono ((Below.refl wr.heap.size wr).drew).size)).size)).trans (hy5.mono ((((Below.refl wr.heap.size wr).drew).trans (hy1.mono ((Below.refl wr.heap.size wr).drew).size)).trans (hy2.mono (((Below.refl wr.heap.size wr).drew).trans (hy1.mono ((Below.refl wr.heap.size wr).drew).size)).size)).size))
                    have HZa := Lib.hid (HZ9.out.on hbb)
                    have HTa := Lib.hid (HT9.out.on hbb)
                    have HUa := Lib.hid (HU9.out.on hbb)
                    clear hbb hHeld
                    go_wp2_with fail
                    go_roundw
                    case rel => exact ⟨1, by omega, by first | rfl | go_num, HZa, HTa, HUa⟩
                    case measure => simp [intOf] <;> omega
                · obtain ⟨a1, ha1⟩ : ∃ a, p2.b.mv = a := ⟨_, rfl⟩
                  obtain ⟨a2, ha2⟩ : ∃ a, p2.b.q.length = a := ⟨_, rfl⟩
                  have hsum := HS2.out.b
                  rw [ha1, ha2] at hsum
                  have hle := (HE2.out.1.b).le
                  rw [ha2] at hle
                  have hJ : J1 ≤ 100000000 := HIB2.out.2
                  have hwJ : IntKind.i64.wrap (a1 + (a2 : Int)) = (J1 : Int) := by rw [hsum, IntKind.wrap_i64]; omega
                  obtain ⟨a3, ha3⟩ : ∃ a, M - a2 = a := ⟨_, rfl⟩
                  have hwR : IntKind.i64.wrap ((M : Int) - (a2 : Int)) = (a3 : Int) := by rw [IntKind.wrap_i64]; omega
                  have HA := Lib.hid (show mvP p2 0 = a1 ∧ wtP p2 0 = a2 ∧ (F1 = false → rmP M p2 1 = a3) ∧ (F1 = true → rmP M p2 1 = 0) from ⟨ha1, ha2, fun hh => ?_, fun hh => ?_⟩)
                  rotate_left
                  · have h1 := HS2.out.eb
                    rw [hh] at h1
                    show (if (p2.br || p2.b.en) = true then 0 else M - p2.b.q.length) = a3
                    rw [HS2.out.br, ← h1, ha2, ha3]
                    rfl
                  · have h1 := HS2.out.eb
                    rw [hh] at h1
                    show (if (p2.br || p2.b.en) = true then 0 else M - p2.b.q.length) = 0
                    rw [HS2.out.br, ← h1]
                    rfl
                  have n1 : ((J1 : Int) != (J1 : Int)) = false := by simp
                  have n3 : ((a3 : Int) != (a3 : Int)) = false := by simp
                  clear hsum hle hJ ha1 ha2 ha3
                  have hw0 : IntKind.i64.wrap (1 - 0) = 1 := by decide
                  have hw1 : IntKind.i64.wrap (1 - 1) = 0 := by decide
                  have hw2 : IntKind.i64.wrap 1 = 1 := by decide
                  have hw3 : IntKind.i64.wrap 0 = 0 := by decide
                  have hk4 : (1 : Int) < 2 := by decide
                  cases F1 with
                  | false =>
                    go_upto_region 21 with fail
                    try simp only [List.cons_append, List.nil_append]
                    refine wp_region_held_drew (S := fun wz => Below wr.heap.size wr wz) (by kernel_rfl) ((Below.refl _ _).drew) (fun hHeld => ?_)
                    refine take_at (some 92) (i := 0) (v := ?_) rfl rfl (by kernel_rfl) (by kernel_rfl) (by kernel_rfl) (fun _ _ _ h => h) (Or.inl ⟨by kernel_rfl, ?_⟩) hHeld ?_
                    rotate_left
                    · intro wz hSw; go_simp; try (with_reducible rfl)
                    try simp only [Act.put, List.setIfInBounds_toArray, List.set_cons_zero, List.set_cons_succ, List.getElem_toArray, List.getElem_cons_succ, List.getElem_cons_zero]
                    refine take_at (some 93) (i := 1) (v := ?_) rfl rfl (by kernel_rfl) (by kernel_rfl) (by kernel_rfl) (fun _ _ _ h => h) (Or.inl ⟨by kernel_rfl, ?_⟩) hHeld ?_
                    rotate_left
                    · intro wz hSw; go_simp; try (with_reducible rfl)
                    try simp only [Act.put, List.setIfInBounds_toArray, List.set_cons_zero, List.set_cons_succ, List.getElem_toArray, List.getElem_cons_succ, List.getElem_cons_zero]
                    refine take_at (some 94) (i := 2) (v := ?_) rfl rfl (by kernel_rfl) (by kernel_rfl) (by kernel_rfl) (fun _ _ _ h => h) (Or.inl ⟨by kernel_rfl, ?_⟩) hHeld ?_
                    rotate_left
                    · intro wz hSw; go_simp; try (with_reducible rfl)
                    try simp only [Act.put, List.setIfInBounds_toArray, List.set_cons_zero, List.set_cons_succ, List.getElem_toArray, List.getElem_cons_succ, List.getElem_cons_zero]
                    refine take_at (some 96) (i := 4) (v := ?_) rfl rfl (by kernel_rfl) (by kernel_rfl) (by kernel_rfl) (fun _ _ _ h => h) (Or.inl ⟨by kernel_rfl, ?_⟩) hHeld ?_
                    rotate_left
                    · intro wz hSw; go_simp; try (with_reducible rfl)
                    try simp only [Act.put, List.setIfInBounds_toArray, List.set_cons_zero, List.set_cons_succ, List.getElem_toArray, List.getElem_cons_succ, List.getElem_cons_zero]
                    refine take_at (some 97) (i := 5) (v := ?_) rfl rfl (by kernel_rfl) (by kernel_rfl) (by kernel_rfl) (fun _ _ _ h => h) (Or.inl ⟨by kernel_rfl, ?_⟩) hHeld ?_
                    rotate_left
                    · intro wz hSw; go_simp; try (with_reducible rfl)
                    try simp only [Act.put, List.setIfInBounds_toArray, List.set_cons_zero, List.set_cons_succ, List.getElem_toArray, List.getElem_cons_succ, List.getElem_cons_zero]
                    refine take_at (some 98) (i := 6) (v := ?_) rfl rfl (by kernel_rfl) (by kernel_rfl) (by kernel_rfl) (fun _ _ _ h => h) (Or.inl ⟨by kernel_rfl, ?_⟩) hHeld ?_
                    rotate_left
                    · intro wz hSw; go_simp; try (with_reducible rfl)
                    try simp only [Act.put, List.setIfInBounds_toArray, List.set_cons_zero, List.set_cons_succ, List.getElem_toArray, List.getElem_cons_succ, List.getElem_cons_zero]
                    refine take_at (some 101) (i := 9) (v := ?_) rfl rfl (by kernel_rfl) (by kernel_rfl) (by kernel_rfl) (fun _ _ _ h => h) (Or.inl ⟨by kernel_rfl, ?_⟩) hHeld ?_
                    rotate_left
                    · intro wz hSw; go_simp; try (with_reducible rfl)
                    try simp only [Act.put, List.setIfInBounds_toArray, List.set_cons_zero, List.set_cons_succ, List.getElem_toArray, List.getElem_cons_succ, List.getElem_cons_zero]
                    refine take_at (some 102) (i := 10) (v := ?_) rfl rfl (by kernel_rfl) (by kernel_rfl) (by kernel_rfl) (fun _ _ _ h => h) (Or.inl ⟨by kernel_rfl, ?_⟩) hHeld ?_
                    rotate_left
                    · intro wz hSw; go_simp; try (with_reducible rfl)
                    try simp only [Act.put, List.setIfInBounds_toArray, List.set_cons_zero, List.set_cons_succ, List.getElem_toArray, List.getElem_cons_succ, List.getElem_cons_zero]
                    refine take_at (some 103) (i := 11) (v := ?_) rfl rfl (by kernel_rfl) (by kernel_rfl) (by kernel_rfl) (fun _ _ _ h => h) (Or.inl ⟨by kernel_rfl, ?_⟩) hHeld ?_
                    rotate_left
                    · intro wz hSw; go_simp; try (with_reducible rfl)
                    try simp only [Act.put, List.setIfInBounds_toArray, List.set_cons_zero, List.set_cons_succ, List.getElem_toArray, List.getElem_cons_succ, List.getElem_cons_zero]
                    refine take_at (some 104) (i := 12) (v := ?_) rfl rfl (by kernel_rfl) (by kernel_rfl) (by kernel_rfl) (fun _ _ _ h => h) (Or.inl ⟨by kernel_rfl, ?_⟩) hHeld ?_
                    rotate_left
                    · intro wz hSw; have d9 : wz.cell? ⟨tb1, 1, none⟩ = some (.int .i64 (J1 : Int)) := (HT9.out.on hSw).b.cell 1; go_simp; try (with_reducible rfl)
                    try simp only [Act.put, List.setIfInBounds_toArray, List.set_cons_zero, List.set_cons_succ, List.getElem_toArray, List.getElem_cons_succ, List.getElem_cons_zero]
                    refine wpAnyH_ready (rs := [3]) (by kernel_rfl) (by simp) (AllReadyH.cons rfl (fun K hK => ?_) AllReadyH.nil)
                    rw [if_pos (by kernel_rfl)]
                    go_simp
                    refine (y_moved (HZ9.out.on ((Below.refl wr.heap.size wr).drew)) 0 a1 HA.out.1).mono ?_
                    rintro e y1 ⟨rfl, hy1⟩
                    try dsimp only
                    refine hK.out _ _ (((Below.refl wr.heap.size wr).drew).trans (hy1.mono ((Below.refl wr.heap.size wr).drew).size)) (fun hHeld => ?_)
                    try simp only [Act.put, List.setIfInBounds_toArray, List.set_cons_zero, List.set_cons_succ, List.getElem_toArray, List.getElem_cons_succ, List.getElem_cons_zero]
                    refine wpAnyH_ready (rs := [7]) (by kernel_rfl) (by simp) (AllReadyH.cons rfl (fun K hK => ?_) AllReadyH.nil)
                    rw [if_pos (by kernel_rfl)]
                    go_simp
                    refine (y_waits (HZ9.out.on (((Below.refl wr.heap.size wr).drew).trans (hy1.mono ((Below.refl wr.heap.size wr).drew).size))) HE2.out.1 hm6 0 a2 HA.out.2.1).mono ?_
                    rintro e y2 ⟨rfl, hy2⟩
                    try dsimp only
                    refine hK.out _ _ ((((Below.refl wr.heap.size wr).drew).trans (hy1.mono ((Below.refl wr.heap.size wr).drew).size)).trans (hy2.mono (((Below.refl wr.heap.size wr).drew).trans (hy1.mono ((Below.refl wr.heap.size wr).drew).size)).size)) (fun hHeld => ?_)
                    try simp only [Act.put, List.setIfInBounds_toArray, List.set_cons_zero, List.set_cons_succ, List.getElem_toArray, List.getElem_cons_succ, List.getElem_cons_zero]
                    refine take_at (some 100) (i := 8) (v := ?_) rfl rfl (by kernel_rfl) (by kernel_rfl) (by kernel_rfl) (fun _ _ _ h => h) (Or.inl ⟨by kernel_rfl, ?_⟩) hHeld ?_
                    rotate_left
                    · intro wz hSw; go_simp; try (with_reducible rfl)
                    try simp only [Act.put, List.setIfInBounds_toArray, List.set_cons_zero, List.set_cons_succ, List.getElem_toArray, List.getElem_cons_succ, List.getElem_cons_zero]
                    refine take_at (some 105) (i := 13) (v := ?_) rfl rfl (by kernel_rfl) (by kernel_rfl) (by kernel_rfl) (fun _ _ _ h => h) (Or.inl ⟨by kernel_rfl, ?_⟩) hHeld ?_
                    rotate_left
                    · intro wz hSw; go_simp; try (with_reducible rfl)
                    try simp only [Act.put, List.setIfInBounds_toArray, List.set_cons_zero, List.set_cons_succ, List.getElem_toArray, List.getElem_cons_succ, List.getElem_cons_zero]
                    refine take_at (some 106) (i := 14) (v := ?_) rfl rfl (by kernel_rfl) (by kernel_rfl) (by kernel_rfl) (fun _ _ _ h => h) (Or.inl ⟨by kernel_rfl, ?_⟩) hHeld ?_
                    rotate_left
                    · intro wz hSw; go_simp; try (with_reducible rfl)
                    try simp only [Act.put, List.setIfInBounds_toArray, List.set_cons_zero, List.set_cons_succ, List.getElem_toArray, List.getElem_cons_succ, List.getElem_cons_zero]
                    refine take_at (some 107) (i := 15) (v := ?_) rfl rfl (by kernel_rfl) (by kernel_rfl) (by kernel_rfl) (fun _ _ _ h => h) (Or.inl ⟨by kernel_rfl, ?_⟩) hHeld ?_
                    rotate_left
                    · intro wz hSw; go_simp; try (with_reducible rfl)
                    try simp only [Act.put, List.setIfInBounds_toArray, List.set_cons_zero, List.set_cons_succ, List.getElem_toArray, List.getElem_cons_succ, List.getElem_cons_zero]
                    refine take_at (some 108) (i := 16) (v := ?_) rfl rfl (by kernel_rfl) (by kernel_rfl) (by kernel_rfl) (fun _ _ _ h => h) (Or.inl ⟨by kernel_rfl, ?_⟩) hHeld ?_
                    rotate_left
                    · intro wz hSw; go_simp; try (with_reducible rfl)
                    try simp only [Act.put, List.setIfInBounds_toArray, List.set_cons_zero, List.set_cons_succ, List.getElem_toArray, List.getElem_cons_succ, List.getElem_cons_zero]
                    refine take_at (some 109) (i := 17) (v := ?_) rfl rfl (by kernel_rfl) (by kernel_rfl) (by kernel_rfl) (fun _ _ _ h => h) (Or.inl ⟨by kernel_rfl, ?_⟩) hHeld ?_
                    rotate_left
                    · intro wz hSw; go_simp; try (with_reducible rfl)
                    try simp only [Act.put, List.setIfInBounds_toArray, List.set_cons_zero, List.set_cons_succ, List.getElem_toArray, List.getElem_cons_succ, List.getElem_cons_zero]
                    refine take_at (some 110) (i := 18) (v := ?_) rfl rfl (by kernel_rfl) (by kernel_rfl) (by kernel_rfl) (fun _ _ _ h => h) (Or.inl ⟨by kernel_rfl, ?_⟩) hHeld ?_
                    rotate_left
                    · intro wz hSw; have g9 : wz.cell? ⟨tb2, 1, none⟩ = some (.bool false) := (HU9.out.on hSw).b.cell 1; go_simp; try (with_reducible rfl)
                    try simp only [Act.put, List.setIfInBounds_toArray, List.set_cons_zero, List.set_cons_succ, List.getElem_toArray, List.getElem_cons_succ, List.getElem_cons_zero]
                    refine take_at (some 111) (i := 19) (v := ?_) rfl rfl (by kernel_rfl) (by kernel_rfl) (by kernel_rfl) (fun _ _ _ h => h) (Or.inl ⟨by kernel_rfl, ?_⟩) hHeld ?_
                    rotate_left
                    · intro wz hSw; go_simp; try (with_reducible rfl)
                    try simp only [Act.put, List.setIfInBounds_toArray, List.set_cons_zero, List.set_cons_succ, List.getElem_toArray, List.getElem_cons_succ, List.getElem_cons_zero]
                    refine take_at (some 112) (i := 20) (v := ?_) rfl rfl (by kernel_rfl) (by kernel_rfl) (by kernel_rfl) (fun _ _ _ h => h) (Or.inl ⟨by kernel_rfl, ?_⟩) hHeld ?_
                    rotate_left
                    · intro wz hSw; go_simp; try (with_reducible rfl)
                    try simp only [Act.put, List.setIfInBounds_toArray, List.set_cons_zero, List.set_cons_succ, List.getElem_toArray, List.getElem_cons_succ, List.getElem_cons_zero]
                    refine take_at (some 113) (i := 21) (v := ?_) rfl rfl (by kernel_rfl) (by kernel_rfl) (by kernel_rfl) (fun _ _ _ h => h) (Or.inl ⟨by kernel_rfl, ?_⟩) hHeld ?_
                    rotate_left
                    · intro wz hSw; go_simp; try (with_reducible rfl)
                    try simp only [Act.put, List.setIfInBounds_toArray, List.set_cons_zero, List.set_cons_succ, List.getElem_toArray, List.getElem_cons_succ, List.getElem_cons_zero]
                    refine take_at (some 114) (i := 22) (v := ?_) rfl rfl (by kernel_rfl) (by kernel_rfl) (by kernel_rfl) (fun _ _ _ h => h) (Or.inl ⟨by kernel_rfl, ?_⟩) hHeld ?_
                    rotate_left
                    · intro wz hSw; go_simp; try (with_reducible rfl)
                    try simp only [Act.put, List.setIfInBounds_toArray, List.set_cons_zero, List.set_cons_succ, List.getElem_toArray, List.getElem_cons_succ, List.getElem_cons_zero]
                    refine take_at (some 116) (i := 24) (v := ?_) rfl rfl (by kernel_rfl) (by kernel_rfl) (by kernel_rfl) (fun _ _ _ h => h) (Or.inl ⟨by kernel_rfl, ?_⟩) hHeld ?_
                    rotate_left
                    · intro wz hSw; go_simp; try (with_reducible rfl)
                    try simp only [Act.put, List.setIfInBounds_toArray, List.set_cons_zero, List.set_cons_succ, List.getElem_toArray, List.getElem_cons_succ, List.getElem_cons_zero]
                    refine take_at (some 117) (i := 25) (v := ?_) rfl rfl (by kernel_rfl) (by kernel_rfl) (by kernel_rfl) (fun _ _ _ h => h) (Or.inl ⟨by kernel_rfl, ?_⟩) hHeld ?_
                    rotate_left
                    · intro wz hSw; go_simp; try (with_reducible rfl)
                    try simp only [Act.put, List.setIfInBounds_toArray, List.set_cons_zero, List.set_cons_succ, List.getElem_toArray, List.getElem_cons_succ, List.getElem_cons_zero]
                    refine take_at (some 118) (i := 26) (v := ?_) rfl rfl (by kernel_rfl) (by kernel_rfl) (by kernel_rfl) (fun _ _ _ h => h) (Or.inl ⟨by kernel_rfl, ?_⟩) hHeld ?_
                    rotate_left
                    · intro wz hSw; go_simp; try (with_reducible rfl)
                    try simp only [Act.put, List.setIfInBounds_toArray, List.set_cons_zero, List.set_cons_succ, List.getElem_toArray, List.getElem_cons_succ, List.getElem_cons_zero]
                    refine take_at (some 119) (i := 27) (v := ?_) rfl rfl (by kernel_rfl) (by kernel_rfl) (by kernel_rfl) (fun _ _ _ h => h) (Or.inl ⟨by kernel_rfl, ?_⟩) hHeld ?_
                    rotate_left
                    · intro wz hSw; go_simp; try (with_reducible rfl)
                    try simp only [Act.put, List.setIfInBounds_toArray, List.set_cons_zero, List.set_cons_succ, List.getElem_toArray, List.getElem_cons_succ, List.getElem_cons_zero]
                    refine take_at (some 120) (i := 28) (v := ?_) rfl rfl (by kernel_rfl) (by kernel_rfl) (by kernel_rfl) (fun _ _ _ h => h) (Or.inl ⟨by kernel_rfl, ?_⟩) hHeld ?_
                    rotate_left
                    · intro wz hSw; go_simp; try (with_reducible rfl)
                    try simp only [Act.put, List.setIfInBounds_toArray, List.set_cons_zero, List.set_cons_succ, List.getElem_toArray, List.getElem_cons_succ, List.getElem_cons_zero]
                    refine wpAnyH_ready (rs := [23]) (by kernel_rfl) (by simp) (AllReadyH.cons rfl (fun K hK => ?_) AllReadyH.nil)
                    rw [if_pos (by kernel_rfl)]
                    go_simp
                    refine (y_room (HZ9.out.on ((((Below.refl wr.heap.size wr).drew).trans (hy1.mono ((Below.refl wr.heap.size wr).drew).size)).trans (hy2.mono (((Below.refl wr.heap.size wr).drew).trans (hy1.mono ((Below.refl wr.heap.size wr).drew).size)).size))) HE2.out.1 hm6 1 a3 (HA.out.2.2.1 rfl)).mono ?_
                    rintro e y3 ⟨rfl, hy3⟩
                    try dsimp only
                    refine hK.out _ _ (((((Below.refl wr.heap.size wr).drew).trans (hy1.mono ((Below.refl wr.heap.size wr).drew).size)).trans (hy2.mono (((Below.refl wr.heap.size wr).drew).trans (hy1.mono ((Below.refl wr.heap.size wr).drew).size)).size)).trans (hy3.mono ((((Below.refl wr.heap.size wr).drew).trans (hy1.mono ((Below.refl wr.heap.size wr).drew).size)).trans (hy2.mono (((Below.refl wr.heap.size wr).drew).trans (hy1.mono ((Below.refl wr.heap.size wr).drew).size)).size)).size)) (fun hHeld => ?_)
                    try simp only [Act.put, List.setIfInBounds_toArray, List.set_cons_zero, List.set_cons_succ, List.getElem_toArray, List.getElem_cons_succ, List.getElem_cons_zero]
                    refine wpAnyH_ready (rs := [29]) (by kernel_rfl) (by simp) (AllReadyH.cons rfl (fun K hK => ?_) AllReadyH.nil)
                    rw [if_pos (by kernel_rfl)]
                    go_simp
                    refine (y_waits (HZ9.out.on (((((Below.refl wr.heap.size wr).drew).trans (hy1.mono ((Below.refl wr.heap.size wr).drew).size)).trans (hy2.mono (((Below.refl wr.heap.size wr).drew).trans (hy1.mono ((Below.refl wr.heap.size wr).drew).size)).size)).trans (hy3.mono ((((Below.refl wr.heap.size wr).drew).trans (hy1.mono ((Below.refl wr.heap.size wr).drew).size)).trans (hy2.mono (((Below.refl wr.heap.size wr).drew).trans (hy1.mono ((Below.refl wr.heap.size wr).drew).size)).size)).size))) HE2.out.1 hm6 0 a2 HA.out.2.1).mono ?_
                    rintro e y4 ⟨rfl, hy4⟩
                    try dsimp only
                    refine hK.out _ _ ((((((Below.refl wr.heap.size wr).drew).trans (hy1.mono ((Below.refl wr.heap.size wr).drew).size)).trans (hy2.mono (((Below.refl wr.heap.size wr).drew).trans (hy1.mono ((Below.refl wr.heap.size wr).drew).size)).size)).trans (hy3.mono ((((Below.refl wr.heap.size wr).drew).trans (hy1.mono ((Below.refl wr.heap.size wr).drew).size)).trans (hy2.mono (((Below.refl wr.heap.size wr).drew).trans (hy1.mono ((Below.refl wr.heap.size wr).drew).size)).size)).size)).trans (hy4.mono (((((Below.refl wr.heap.size wr).drew).trans (hy1.mono ((Below.refl wr.heap.size wr).drew).size)).trans (hy2.mono (((Below.refl wr.heap.size wr).drew).trans (hy1.mono ((Below.refl wr.heap.size wr).drew).size)).size)).trans (hy3.mono ((((Below.refl wr.heap.size wr).drew).trans (hy1.mono ((Below.refl wr.heap.size wr).drew).size)).trans (hy2.mono (((Below.refl wr.heap.size wr).drew).trans (hy1.mono ((Below.refl wr.heap.size wr).drew).size)).size)).size)).size)) (fun hHeld => ?_)
                    try simp only [Act.put, List.setIfInBounds_toArray, List.set_cons_zero, List.set_cons_succ, List.getElem_toArray, List.getElem_cons_succ, List.getElem_cons_zero]
                    refine take_at (some 122) (i := 30) (v := ?_) rfl rfl (by kernel_rfl) (by kernel_rfl) (by kernel_rfl) (fun _ _ _ h => h) (Or.inl ⟨by kernel_rfl, ?_⟩) hHeld ?_
                    rotate_left
                    · intro wz hSw; go_simp; try (with_reducible rfl)
                    try simp only [Act.put, List.setIfInBounds_toArray, List.set_cons_zero, List.set_cons_succ, List.getElem_toArray, List.getElem_cons_succ, List.getElem_cons_zero]
                    refine take_at (some 123) (i := 31) (v := ?_) rfl rfl (by kernel_rfl) (by kernel_rfl) (by kernel_rfl) (fun _ _ _ h => h) (Or.inl ⟨by kernel_rfl, ?_⟩) hHeld ?_
                    rotate_left
                    · intro wz hSw; go_simp; try (with_reducible rfl)
                    try simp only [Act.put, List.setIfInBounds_toArray, List.set_cons_zero, List.set_cons_succ, List.getElem_toArray, List.getElem_cons_succ, List.getElem_cons_zero]
                    refine take_at (some 124) (i := 32) (v := ?_) rfl rfl (by kernel_rfl) (by kernel_rfl) (by kernel_rfl) (fun _ _ _ h => h) (Or.inl ⟨by kernel_rfl, ?_⟩) hHeld ?_
                    rotate_left
                    · intro wz hSw; go_simp; try (with_reducible rfl)
                    try simp only [Act.put, List.setIfInBounds_toArray, List.set_cons_zero, List.set_cons_succ, List.getElem_toArray, List.getElem_cons_succ, List.getElem_cons_zero]
                    refine take_at (some 125) (i := 33) (v := ?_) rfl rfl (by kernel_rfl) (by kernel_rfl) (by kernel_rfl) (fun _ _ _ h => h) (Or.inl ⟨by kernel_rfl, ?_⟩) hHeld ?_
                    rotate_left
                    · intro wz hSw; go_simp; try (with_reducible rfl)
                    try simp only [Act.put, List.setIfInBounds_toArray, List.set_cons_zero, List.set_cons_succ, List.getElem_toArray, List.getElem_cons_succ, List.getElem_cons_zero]
                    refine take_at (some 126) (i := 34) (v := ?_) rfl rfl (by kernel_rfl) (by kernel_rfl) (by kernel_rfl) (fun _ _ _ h => h) (Or.inl ⟨by kernel_rfl, ?_⟩) hHeld ?_
                    rotate_left
                    · intro wz hSw; go_simp; try (with_reducible rfl)
                    try simp only [Act.put, List.setIfInBounds_toArray, List.set_cons_zero, List.set_cons_succ, List.getElem_toArray, List.getElem_cons_succ, List.getElem_cons_zero]
                    refine take_at (some 127) (i := 35) (v := ?_) rfl rfl (by kernel_rfl) (by kernel_rfl) (by kernel_rfl) (fun _ _ _ h => h) (Or.inl ⟨by kernel_rfl, ?_⟩) hHeld ?_
                    rotate_left
                    · intro wz hSw; go_simp; try (with_reducible rfl)
                    try simp only [Act.put, List.setIfInBounds_toArray, List.set_cons_zero, List.set_cons_succ, List.getElem_toArray, List.getElem_cons_succ, List.getElem_cons_zero]
                    refine take_at (some 128) (i := 36) (v := ?_) rfl rfl (by kernel_rfl) (by kernel_rfl) (by kernel_rfl) (fun _ _ _ h => h) (Or.inl ⟨by kernel_rfl, ?_⟩) hHeld ?_
                    rotate_left
                    · intro wz hSw; go_simp; try (with_reducible rfl)
                    try simp only [Act.put, List.setIfInBounds_toArray, List.set_cons_zero, List.set_cons_succ, List.getElem_toArray, List.getElem_cons_succ, List.getElem_cons_zero]
                    refine take_at (some 129) (i := 37) (v := ?_) rfl rfl (by kernel_rfl) (by kernel_rfl) (by kernel_rfl) (fun _ _ _ h => h) (Or.inl ⟨by kernel_rfl, ?_⟩) hHeld ?_
                    rotate_left
                    · intro wz hSw; go_simp; try (with_reducible rfl)
                    try simp only [Act.put, List.setIfInBounds_toArray, List.set_cons_zero, List.set_cons_succ, List.getElem_toArray, List.getElem_cons_succ, List.getElem_cons_zero]
                    refine take_at (some 130) (i := 38) (v := ?_) rfl rfl (by kernel_rfl) (by kernel_rfl) (by kernel_rfl) (fun _ _ _ h => h) (Or.inl ⟨by kernel_rfl, ?_⟩) hHeld ?_
                    rotate_left
                    · intro wz hSw; have g9 : wz.cell? ⟨tb2, 1, none⟩ = some (.bool false) := (HU9.out.on hSw).b.cell 1; go_simp; try (with_reducible rfl)
                    try simp only [Act.put, List.setIfInBounds_toArray, List.set_cons_zero, List.set_cons_succ, List.getElem_toArray, List.getElem_cons_succ, List.getElem_cons_zero]
                    refine take_at (some 131) (i := 39) (v := ?_) rfl rfl (by kernel_rfl) (by kernel_rfl) (by kernel_rfl) (fun _ _ _ h => h) (Or.inl ⟨by kernel_rfl, ?_⟩) hHeld ?_
                    rotate_left
                    · intro wz hSw; go_simp; try (with_reducible rfl)
                    try simp only [Act.put, List.setIfInBounds_toArray, List.set_cons_zero, List.set_cons_succ, List.getElem_toArray, List.getElem_cons_succ, List.getElem_cons_zero]
                    refine take_at (some 132) (i := 40) (v := undef) rfl rfl (by kernel_rfl) (by kernel_rfl) (by kernel_rfl) (fun _ _ _ h => h) (Or.inr ⟨by kernel_rfl, rfl⟩) hHeld ?_
                    try simp only [Act.put, List.setIfInBounds_toArray, List.set_cons_zero, List.set_cons_succ, List.getElem_toArray, List.getElem_cons_succ, List.getElem_cons_zero]
                    refine take_at (some 133) (i := 41) (v := undef) rfl rfl (by kernel_rfl) (by kernel_rfl) (by kernel_rfl) (fun _ _ _ h => h) (Or.inr ⟨by kernel_rfl, rfl⟩) hHeld ?_
                    try simp only [Act.put, List.setIfInBounds_toArray, List.set_cons_zero, List.set_cons_succ, List.getElem_toArray, List.getElem_cons_succ, List.getElem_cons_zero]
                    refine take_at (some 134) (i := 42) (v := undef) rfl rfl (by kernel_rfl) (by kernel_rfl) (by kernel_rfl) (fun _ _ _ h => h) (Or.inr ⟨by kernel_rfl, rfl⟩) hHeld ?_
                    try simp only [Act.put, List.setIfInBounds_toArray, List.set_cons_zero, List.set_cons_succ, List.getElem_toArray, List.getElem_cons_succ, List.getElem_cons_zero]
                    refine take_at (some 135) (i := 43) (v := undef) rfl rfl (by kernel_rfl) (by kernel_rfl) (by kernel_rfl) (fun _ _ _ h => h) (Or.inr ⟨by kernel_rfl, rfl⟩) hHeld ?_
                    try simp only [Act.put, List.setIfInBounds_toArray, List.set_cons_zero, List.set_cons_succ, List.getElem_toArray, List.getElem_cons_succ, List.getElem_cons_zero]
                    refine take_at (some 136) (i := 44) (v := ?_) rfl rfl (by kernel_rfl) (by kernel_rfl) (by kernel_rfl) (fun _ _ _ h => h) (Or.inl ⟨by kernel_rfl, ?_⟩) hHeld ?_
                    rotate_left
                    · intro wz hSw; go_simp; try (with_reducible rfl)
                    try simp only [Act.put, List.setIfInBounds_toArray, List.set_cons_zero, List.set_cons_succ, List.getElem_toArray, List.getElem_cons_succ, List.getElem_cons_zero]
                    refine take_at (some 137) (i := 45) (v := ?_) rfl rfl (by kernel_rfl) (by kernel_rfl) (by kernel_rfl) (fun _ _ _ h => h) (Or.inl ⟨by kernel_rfl, ?_⟩) hHeld ?_
                    rotate_left
                    · intro wz hSw; go_simp; try (with_reducible rfl)
                    try simp only [Act.put, List.setIfInBounds_toArray, List.set_cons_zero, List.set_cons_succ, List.getElem_toArray, List.getElem_cons_succ, List.getElem_cons_zero]
                    refine wpAnyH_done (by kernel_rfl) ?_ _
                    have hbb := ((((((Below.refl wr.heap.size wr).drew).trans (hy1.mono ((Below.refl wr.heap.size wr).drew).size)).trans (hy2.mono (((Below.refl wr.heap.size wr).drew).trans (hy1.mono ((Below.refl wr.heap.size wr).drew).size)).size)).trans (hy3.mono ((((Below.refl wr.heap.size wr).drew).trans (hy1.mono ((Below.refl wr.heap.size wr).drew).size)).trans (hy2.mono (((Below.refl wr.heap.size wr).drew).trans (hy1.mono ((Below.refl wr.heap.size wr).drew).size)).size)).size)).trans (hy4.mono (((((Below.refl wr.heap.size wr).drew).trans (hy1.mono ((Below.refl wr.heap.size wr).drew).size)).trans (hy2.mono (((Below.refl wr.heap.size wr).drew).trans (hy1.mono ((Below.refl wr.heap.size wr).drew).size)).size)).trans (hy3.mono ((((Below.refl wr.heap.size wr).drew).trans (hy1.mono ((Below.refl wr.heap.size wr).drew).size)).trans (hy2.mono (((Below.refl wr.heap.size wr).drew).trans (hy1.mono ((Below.refl wr.heap.size wr).drew).size)).size)).size)).size))
                    have HZa := Lib.hid (HZ9.out.on hbb)
                    have HTa := Lib.hid (HT9.out.on hbb)
                    have HUa := Lib.hid (HU9.out.on hbb)
                    clear hbb hHeld
                    go_wp2_with fail
                    go_roundw
                    case rel => exact ⟨2, by omega, by first | rfl | go_num, HZa, HTa, HUa⟩
                    case measure => simp [intOf] <;> omega
                  | true =>
                    go_upto_region 21 with fail
                    try simp only [List.cons_append, List.nil_append]
                    refine wp_region_held_drew (S := fun wz => Below wr.heap.size wr wz) (by kernel_rfl) ((Below.refl _ _).drew) (fun hHeld => ?_)
                    refine take_at (some 92) (i := 0) (v := ?_) rfl rfl (by kernel_rfl) (by kernel_rfl) (by kernel_rfl) (fun _ _ _ h => h) (Or.inl ⟨by kernel_rfl, ?_⟩) hHeld ?_
                    rotate_left
                    · intro wz hSw; go_simp; try (with_reducible rfl)
                    try simp only [Act.put, List.setIfInBounds_toArray, List.set_cons_zero, List.set_cons_succ, List.getElem_toArray, List.getElem_cons_succ, List.getElem_cons_zero]
                    refine take_at (some 93) (i := 1) (v := ?_) rfl rfl (by kernel_rfl) (by kernel_rfl) (by kernel_rfl) (fun _ _ _ h => h) (Or.inl ⟨by kernel_rfl, ?_⟩) hHeld ?_
                    rotate_left
                    · intro wz hSw; go_simp; try (with_reducible rfl)
                    try simp only [Act.put, List.setIfInBounds_toArray, List.set_cons_zero, List.set_cons_succ, List.getElem_toArray, List.getElem_cons_succ, List.getElem_cons_zero]
                    refine take_at (some 94) (i := 2) (v := ?_) rfl rfl (by kernel_rfl) (by kernel_rfl) (by kernel_rfl) (fun _ _ _ h => h) (Or.inl ⟨by kernel_rfl, ?_⟩) hHeld ?_
                    rotate_left
                    · intro wz hSw; go_simp; try (with_reducible rfl)
                    try simp only [Act.put, List.setIfInBounds_toArray, List.set_cons_zero, List.set_cons_succ, List.getElem_toArray, List.getElem_cons_succ, List.getElem_cons_zero]
                    refine take_at (some 96) (i := 4) (v := ?_) rfl rfl (by kernel_rfl) (by kernel_rfl) (by kernel_rfl) (fun _ _ _ h => h) (Or.inl ⟨by kernel_rfl, ?_⟩) hHeld ?_
                    rotate_left
                    · intro wz hSw; go_simp; try (with_reducible rfl)
                    try simp only [Act.put, List.setIfInBounds_toArray, List.set_cons_zero, List.set_cons_succ, List.getElem_toArray, List.getElem_cons_succ, List.getElem_cons_zero]
                    refine take_at (some 97) (i := 5) (v := ?_) rfl rfl (by kernel_rfl) (by kernel_rfl) (by kernel_rfl) (fun _ _ _ h => h) (Or.inl ⟨by kernel_rfl, ?_⟩) hHeld ?_
                    rotate_left
                    · intro wz hSw; go_simp; try (with_reducible rfl)
                    try simp only [Act.put, List.setIfInBounds_toArray, List.set_cons_zero, List.set_cons_succ, List.getElem_toArray, List.getElem_cons_succ, List.getElem_cons_zero]
                    refine take_at (some 98) (i := 6) (v := ?_) rfl rfl (by kernel_rfl) (by kernel_rfl) (by kernel_rfl) (fun _ _ _ h => h) (Or.inl ⟨by kernel_rfl, ?_⟩) hHeld ?_
                    rotate_left
                    · intro wz hSw; go_simp; try (with_reducible rfl)
                    try simp only [Act.put, List.setIfInBounds_toArray, List.set_cons_zero, List.set_cons_succ, List.getElem_toArray, List.getElem_cons_succ, List.getElem_cons_zero]
                    refine take_at (some 101) (i := 9) (v := ?_) rfl rfl (by kernel_rfl) (by kernel_rfl) (by kernel_rfl) (fun _ _ _ h => h) (Or.inl ⟨by kernel_rfl, ?_⟩) hHeld ?_
                    rotate_left
                    · intro wz hSw; go_simp; try (with_reducible rfl)
                    try simp only [Act.put, List.setIfInBounds_toArray, List.set_cons_zero, List.set_cons_succ, List.getElem_toArray, List.getElem_cons_succ, List.getElem_cons_zero]
                    refine take_at (some 102) (i := 10) (v := ?_) rfl rfl (by kernel_rfl) (by kernel_rfl) (by kernel_rfl) (fun _ _ _ h => h) (Or.inl ⟨by kernel_rfl, ?_⟩) hHeld ?_
                    rotate_left
                    · intro wz hSw; go_simp; try (with_reducible rfl)
                    try simp only [Act.put, List.setIfInBounds_toArray, List.set_cons_zero, List.set_cons_succ, List.getElem_toArray, List.getElem_cons_succ, List.getElem_cons_zero]
                    refine take_at (some 103) (i := 11) (v := ?_) rfl rfl (by kernel_rfl) (by kernel_rfl) (by kernel_rfl) (fun _ _ _ h => h) (Or.inl ⟨by kernel_rfl, ?_⟩) hHeld ?_
                    rotate_left
                    · intro wz hSw; go_simp; try (with_reducible rfl)
                    try simp only [Act.put, List.setIfInBounds_toArray, List.set_cons_zero, List.set_cons_succ, List.getElem_toArray, List.getElem_cons_succ, List.getElem_cons_zero]
                    refine take_at (some 104) (i := 12) (v := ?_) rfl rfl (by kernel_rfl) (by kernel_rfl) (by kernel_rfl) (fun _ _ _ h => h) (Or.inl ⟨by kernel_rfl, ?_⟩) hHeld ?_
                    rotate_left
                    · intro wz hSw; have d9 : wz.cell? ⟨tb1, 1, none⟩ = some (.int .i64 (J1 : Int)) := (HT9.out.on hSw).b.cell 1; go_simp; try (with_reducible rfl)
                    try simp only [Act.put, List.setIfInBounds_toArray, List.set_cons_zero, List.set_cons_succ, List.getElem_toArray, List.getElem_cons_succ, List.getElem_cons_zero]
                    refine wpAnyH_ready (rs := [3]) (by kernel_rfl) (by simp) (AllReadyH.cons rfl (fun K hK => ?_) AllReadyH.nil)
                    rw [if_pos (by kernel_rfl)]
                    go_simp
                    refine (y_moved (HZ9.out.on ((Below.refl wr.heap.size wr).drew)) 0 a1 HA.out.1).mono ?_
                    rintro e y1 ⟨rfl, hy1⟩
                    try dsimp only
                    refine hK.out _ _ (((Below.refl wr.heap.size wr).drew).trans (hy1.mono ((Below.refl wr.heap.size wr).drew).size)) (fun hHeld => ?_)
                    try simp only [Act.put, List.setIfInBounds_toArray, List.set_cons_zero, List.set_cons_succ, List.getElem_toArray, List.getElem_cons_succ, List.getElem_cons_zero]
                    refine wpAnyH_ready (rs := [7]) (by kernel_rfl) (by simp) (AllReadyH.cons rfl (fun K hK => ?_) AllReadyH.nil)
                    rw [if_pos (by kernel_rfl)]
                    go_simp
                    refine (y_waits (HZ9.out.on (((Below.refl wr.heap.size wr).drew).trans (hy1.mono ((Below.refl wr.heap.size wr).drew).size))) HE2.out.1 hm6 0 a2 HA.out.2.1).mono ?_
                    rintro e y2 ⟨rfl, hy2⟩
                    try dsimp only
                    refine hK.out _ _ ((((Below.refl wr.heap.size wr).drew).trans (hy1.mono ((Below.refl wr.heap.size wr).drew).size)).trans (hy2.mono (((Below.refl wr.heap.size wr).drew).trans (hy1.mono ((Below.refl wr.heap.size wr).drew).size)).size)) (fun hHeld => ?_)
                    try simp only [Act.put, List.setIfInBounds_toArray, List.set_cons_zero, List.set_cons_succ, List.getElem_toArray, List.getElem_cons_succ, List.getElem_cons_zero]
                    refine take_at (some 100) (i := 8) (v := ?_) rfl rfl (by kernel_rfl) (by kernel_rfl) (by kernel_rfl) (fun _ _ _ h => h) (Or.inl ⟨by kernel_rfl, ?_⟩) hHeld ?_
                    rotate_left
                    · intro wz hSw; go_simp; try (with_reducible rfl)
                    try simp only [Act.put, List.setIfInBounds_toArray, List.set_cons_zero, List.set_cons_succ, List.getElem_toArray, List.getElem_cons_succ, List.getElem_cons_zero]
                    refine take_at (some 105) (i := 13) (v := ?_) rfl rfl (by kernel_rfl) (by kernel_rfl) (by kernel_rfl) (fun _ _ _ h => h) (Or.inl ⟨by kernel_rfl, ?_⟩) hHeld ?_
                    rotate_left
                    · intro wz hSw; go_simp; try (with_reducible rfl)
                    try simp only [Act.put, List.setIfInBounds_toArray, List.set_cons_zero, List.set_cons_succ, List.getElem_toArray, List.getElem_cons_succ, List.getElem_cons_zero]
                    refine take_at (some 106) (i := 14) (v := ?_) rfl rfl (by kernel_rfl) (by kernel_rfl) (by kernel_rfl) (fun _ _ _ h => h) (Or.inl ⟨by kernel_rfl, ?_⟩) hHeld ?_
                    rotate_left
                    · intro wz hSw; go_simp; try (with_reducible rfl)
                    try simp only [Act.put, List.setIfInBounds_toArray, List.set_cons_zero, List.set_cons_succ, List.getElem_toArray, List.getElem_cons_succ, List.getElem_cons_zero]
                    refine take_at (some 107) (i := 15) (v := ?_) rfl rfl (by kernel_rfl) (by kernel_rfl) (by kernel_rfl) (fun _ _ _ h => h) (Or.inl ⟨by kernel_rfl, ?_⟩) hHeld ?_
                    rotate_left
                    · intro wz hSw; go_simp; try (with_reducible rfl)
                    try simp only [Act.put, List.setIfInBounds_toArray, List.set_cons_zero, List.set_cons_succ, List.getElem_toArray, List.getElem_cons_succ, List.getElem_cons_zero]
                    refine take_at (some 108) (i := 16) (v := ?_) rfl rfl (by kernel_rfl) (by kernel_rfl) (by kernel_rfl) (fun _ _ _ h => h) (Or.inl ⟨by kernel_rfl, ?_⟩) hHeld ?_
                    rotate_left
                    · intro wz hSw; go_simp; try (with_reducible rfl)
                    try simp only [Act.put, List.setIfInBounds_toArray, List.set_cons_zero, List.set_cons_succ, List.getElem_toArray, List.getElem_cons_succ, List.getElem_cons_zero]
                    refine take_at (some 109) (i := 17) (v := ?_) rfl rfl (by kernel_rfl) (by kernel_rfl) (by kernel_rfl) (fun _ _ _ h => h) (Or.inl ⟨by kernel_rfl, ?_⟩) hHeld ?_
                    rotate_left
                    · intro wz hSw; go_simp; try (with_reducible rfl)
                    try simp only [Act.put, List.setIfInBounds_toArray, List.set_cons_zero, List.set_cons_succ, List.getElem_toArray, List.getElem_cons_succ, List.getElem_cons_zero]
                    refine take_at (some 110) (i := 18) (v := ?_) rfl rfl (by kernel_rfl) (by kernel_rfl) (by kernel_rfl) (fun _ _ _ h => h) (Or.inl ⟨by kernel_rfl, ?_⟩) hHeld ?_
                    rotate_left
                    · intro wz hSw; have g9 : wz.cell? ⟨tb2, 1, none⟩ = some (.bool true) := (HU9.out.on hSw).b.cell 1; go_simp; try (with_reducible rfl)
                    try simp only [Act.put, List.setIfInBounds_toArray, List.set_cons_zero, List.set_cons_succ, List.getElem_toArray, List.getElem_cons_succ, List.getElem_cons_zero]
                    refine take_at (some 111) (i := 19) (v := ?_) rfl rfl (by kernel_rfl) (by kernel_rfl) (by kernel_rfl) (fun _ _ _ h => h) (Or.inl ⟨by kernel_rfl, ?_⟩) hHeld ?_
                    rotate_left
                    · intro wz hSw; go_simp; try (with_reducible rfl)
                    try simp only [Act.put, List.setIfInBounds_toArray, List.set_cons_zero, List.set_cons_succ, List.getElem_toArray, List.getElem_cons_succ, List.getElem_cons_zero]
                    refine take_at (some 112) (i := 20) (v := ?_) rfl rfl (by kernel_rfl) (by kernel_rfl) (by kernel_rfl) (fun _ _ _ h => h) (Or.inl ⟨by kernel_rfl, ?_⟩) hHeld ?_
                    rotate_left
                    · intro wz hSw; go_simp; try (with_reducible rfl)
                    try simp only [Act.put, List.setIfInBounds_toArray, List.set_cons_zero, List.set_cons_succ, List.getElem_toArray, List.getElem_cons_succ, List.getElem_cons_zero]
                    refine take_at (some 113) (i := 21) (v := undef) rfl rfl (by kernel_rfl) (by kernel_rfl) (by kernel_rfl) (fun _ _ _ h => h) (Or.inr ⟨by kernel_rfl, rfl⟩) hHeld ?_
                    try simp only [Act.put, List.setIfInBounds_toArray, List.set_cons_zero, List.set_cons_succ, List.getElem_toArray, List.getElem_cons_succ, List.getElem_cons_zero]
                    refine take_at (some 114) (i := 22) (v := undef) rfl rfl (by kernel_rfl) (by kernel_rfl) (by kernel_rfl) (fun _ _ _ h => h) (Or.inr ⟨by kernel_rfl, rfl⟩) hHeld ?_
                    try simp only [Act.put, List.setIfInBounds_toArray, List.set_cons_zero, List.set_cons_succ, List.getElem_toArray, List.getElem_cons_succ, List.getElem_cons_zero]
                    refine take_at (some 115) (i := 23) (v := undef) rfl rfl (by kernel_rfl) (by kernel_rfl) (by kernel_rfl) (fun _ _ _ h => h) (Or.inr ⟨by kernel_rfl, rfl⟩) hHeld ?_
                    try simp only [Act.put, List.setIfInBounds_toArray, List.set_cons_zero, List.set_cons_succ, List.getElem_toArray, List.getElem_cons_succ, List.getElem_cons_zero]
                    refine take_at (some 116) (i := 24) (v := undef) rfl rfl (by kernel_rfl) (by kernel_rfl) (by kernel_rfl) (fun _ _ _ h => h) (Or.inr ⟨by kernel_rfl, rfl⟩) hHeld ?_
                    try simp only [Act.put, List.setIfInBounds_toArray, List.set_cons_zero, List.set_cons_succ, List.getElem_toArray, List.getElem_cons_succ, List.getElem_cons_zero]
                    refine take_at (some 117) (i := 25) (v := undef) rfl rfl (by kernel_rfl) (by kernel_rfl) (by kernel_rfl) (fun _ _ _ h => h) (Or.inr ⟨by kernel_rfl, rfl⟩) hHeld ?_
                    try simp only [Act.put, List.setIfInBounds_toArray, List.set_cons_zero, List.set_cons_succ, List.getElem_toArray, List.getElem_cons_succ, List.getElem_cons_zero]
                    refine take_at (some 118) (i := 26) (v := undef) rfl rfl (by kernel_rfl) (by kernel_rfl) (by kernel_rfl) (fun _ _ _ h => h) (Or.inr ⟨by kernel_rfl, rfl⟩) hHeld ?_
                    try simp only [Act.put, List.setIfInBounds_toArray, List.set_cons_zero, List.set_cons_succ, List.getElem_toArray, List.getElem_cons_succ, List.getElem_cons_zero]
                    refine take_at (some 119) (i := 27) (v := undef) rfl rfl (by kernel_rfl) (by kernel_rfl) (by kernel_rfl) (fun _ _ _ h => h) (Or.inr ⟨by kernel_rfl, rfl⟩) hHeld ?_
                    try simp only [Act.put, List.setIfInBounds_toArray, List.set_cons_zero, List.set_cons_succ, List.getElem_toArray, List.getElem_cons_succ, List.getElem_cons_zero]
                    refine take_at (some 120) (i := 28) (v := undef) rfl rfl (by kernel_rfl) (by kernel_rfl) (by kernel_rfl) (fun _ _ _ h => h) (Or.inr ⟨by kernel_rfl, rfl⟩) hHeld ?_
                    try simp only [Act.put, List.setIfInBounds_toArray, List.set_cons_zero, List.set_cons_succ, List.getElem_toArray, List.getElem_cons_succ, List.getElem_cons_zero]
                    refine take_at (some 121) (i := 29) (v := undef) rfl rfl (by kernel_rfl) (by kernel_rfl) (by kernel_rfl) (fun _ _ _ h => h) (Or.inr ⟨by kernel_rfl, rfl⟩) hHeld ?_
                    try simp only [Act.put, List.setIfInBounds_toArray, List.set_cons_zero, List.set_cons_succ, List.getElem_toArray, List.getElem_cons_succ, List.getElem_cons_zero]
                    refine take_at (some 122) (i := 30) (v := undef) rfl rfl (by kernel_rfl) (by kernel_rfl) (by kernel_rfl) (fun _ _ _ h => h) (Or.inr ⟨by kernel_rfl, rfl⟩) hHeld ?_
                    try simp only [Act.put, List.setIfInBounds_toArray, List.set_cons_zero, List.set_cons_succ, List.getElem_toArray, List.getElem_cons_succ, List.getElem_cons_zero]
                    refine take_at (some 123) (i := 31) (v := undef) rfl rfl (by kernel_rfl) (by kernel_rfl) (by kernel_rfl) (fun _ _ _ h => h) (Or.inr ⟨by kernel_rfl, rfl⟩) hHeld ?_
                    try simp only [Act.put, List.setIfInBounds_toArray, List.set_cons_zero, List.set_cons_succ, List.getElem_toArray, List.getElem_cons_succ, List.getElem_cons_zero]
                    refine take_at (some 124) (i := 32) (v := ?_) rfl rfl (by kernel_rfl) (by kernel_rfl) (by kernel_rfl) (fun _ _ _ h => h) (Or.inl ⟨by kernel_rfl, ?_⟩) hHeld ?_
                    rotate_left
                    · intro wz hSw; go_simp; try (with_reducible rfl)
                    try simp only [Act.put, List.setIfInBounds_toArray, List.set_cons_zero, List.set_cons_succ, List.getElem_toArray, List.getElem_cons_succ, List.getElem_cons_zero]
                    refine take_at (some 125) (i := 33) (v := ?_) rfl rfl (by kernel_rfl) (by kernel_rfl) (by kernel_rfl) (fun _ _ _ h => h) (Or.inl ⟨by kernel_rfl, ?_⟩) hHeld ?_
                    rotate_left
                    · intro wz hSw; go_simp; try (with_reducible rfl)
                    try simp only [Act.put, List.setIfInBounds_toArray, List.set_cons_zero, List.set_cons_succ, List.getElem_toArray, List.getElem_cons_succ, List.getElem_cons_zero]
                    refine take_at (some 126) (i := 34) (v := ?_) rfl rfl (by kernel_rfl) (by kernel_rfl) (by kernel_rfl) (fun _ _ _ h => h) (Or.inl ⟨by kernel_rfl, ?_⟩) hHeld ?_
                    rotate_left
                    · intro wz hSw; go_simp; try (with_reducible rfl)
                    try simp only [Act.put, List.setIfInBounds_toArray, List.set_cons_zero, List.set_cons_succ, List.getElem_toArray, List.getElem_cons_succ, List.getElem_cons_zero]
                    refine take_at (some 127) (i := 35) (v := ?_) rfl rfl (by kernel_rfl) (by kernel_rfl) (by kernel_rfl) (fun _ _ _ h => h) (Or.inl ⟨by kernel_rfl, ?_⟩) hHeld ?_
                    rotate_left
                    · intro wz hSw; go_simp; try (with_reducible rfl)
                    try simp only [Act.put, List.setIfInBounds_toArray, List.set_cons_zero, List.set_cons_succ, List.getElem_toArray, List.getElem_cons_succ, List.getElem_cons_zero]
                    refine take_at (some 128) (i := 36) (v := ?_) rfl rfl (by kernel_rfl) (by kernel_rfl) (by kernel_rfl) (fun _ _ _ h => h) (Or.inl ⟨by kernel_rfl, ?_⟩) hHeld ?_
                    rotate_left
                    · intro wz hSw; go_simp; try (with_reducible rfl)
                    try simp only [Act.put, List.setIfInBounds_toArray, List.set_cons_zero, List.set_cons_succ, List.getElem_toArray, List.getElem_cons_succ, List.getElem_cons_zero]
                    refine take_at (some 129) (i := 37) (v := ?_) rfl rfl (by kernel_rfl) (by kernel_rfl) (by kernel_rfl) (fun _ _ _ h => h) (Or.inl ⟨by kernel_rfl, ?_⟩) hHeld ?_
                    rotate_left
                    · intro wz hSw; go_simp; try (with_reducible rfl)
                    try simp only [Act.put, List.setIfInBounds_toArray, List.set_cons_zero, List.set_cons_succ, List.getElem_toArray, List.getElem_cons_succ, List.getElem_cons_zero]
                    refine take_at (some 130) (i := 38) (v := ?_) rfl rfl (by kernel_rfl) (by kernel_rfl) (by kernel_rfl) (fun _ _ _ h => h) (Or.inl ⟨by kernel_rfl, ?_⟩) hHeld ?_
                    rotate_left
                    · intro wz hSw; have g9 : wz.cell? ⟨tb2, 1, none⟩ = some (.bool true) := (HU9.out.on hSw).b.cell 1; go_simp; try (with_reducible rfl)
                    try simp only [Act.put, List.setIfInBounds_toArray, List.set_cons_zero, List.set_cons_succ, List.getElem_toArray, List.getElem_cons_succ, List.getElem_cons_zero]
                    refine take_at (some 131) (i := 39) (v := ?_) rfl rfl (by kernel_rfl) (by kernel_rfl) (by kernel_rfl) (fun _ _ _ h => h) (Or.inl ⟨by kernel_rfl, ?_⟩) hHeld ?_
                    rotate_left
                    · intro wz hSw; go_simp; try (with_reducible rfl)
                    try simp only [Act.put, List.setIfInBounds_toArray, List.set_cons_zero, List.set_cons_succ, List.getElem_toArray, List.getElem_cons_succ, List.getElem_cons_zero]
                    refine take_at (some 132) (i := 40) (v := ?_) rfl rfl (by kernel_rfl) (by kernel_rfl) (by kernel_rfl) (fun _ _ _ h => h) (Or.inl ⟨by kernel_rfl, ?_⟩) hHeld ?_
                    rotate_left
                    · intro wz hSw; go_simp; try (with_reducible rfl)
                    try simp only [Act.put, List.setIfInBounds_toArray, List.set_cons_zero, List.set_cons_succ, List.getElem_toArray, List.getElem_cons_succ, List.getElem_cons_zero]
                    refine take_at (some 133) (i := 41) (v := ?_) rfl rfl (by kernel_rfl) (by kernel_rfl) (by kernel_rfl) (fun _ _ _ h => h) (Or.inl ⟨by kernel_rfl, ?_⟩) hHeld ?_
                    rotate_left
                    · intro wz hSw; go_simp; try (with_reducible rfl)
                    try simp only [Act.put, List.setIfInBounds_toArray, List.set_cons_zero, List.set_cons_succ, List.getElem_toArray, List.getElem_cons_succ, List.getElem_cons_zero]
                    refine wpAnyH_ready (rs := [42]) (by kernel_rfl) (by simp) (AllReadyH.cons rfl (fun K hK => ?_) AllReadyH.nil)
                    rw [if_pos (by kernel_rfl)]
                    go_simp
                    refine (y_room (HZ9.out.on ((((Below.refl wr.heap.size wr).drew).trans (hy1.mono ((Below.refl wr.heap.size wr).drew).size)).trans (hy2.mono (((Below.refl wr.heap.size wr).drew).trans (hy1.mono ((Below.refl wr.heap.size wr).drew).size)).size))) HE2.out.1 hm6 1 0 (HA.out.2.2.2 rfl)).mono ?_
                    rintro e y5 ⟨rfl, hy5⟩
                    try dsimp only
                    refine hK.out _ _ (((((Below.refl wr.heap.size wr).drew).trans (hy1.mono ((Below.refl wr.heap.size wr).drew).size)).trans (hy2.mono (((Below.refl wr.heap.size wr).drew).trans (hy1.mono ((Below.refl wr.heap.size wr).drew).size)).size)).trans (hy5.mono ((((Below.refl wr.heap.size wr).drew).trans (hy1.mono ((Below.refl wr.heap.size wr).drew).size)).trans (hy2.mono (((Below.refl wr.heap.size wr).drew).trans (hy1.mono ((Below.refl wr.heap.size wr).drew).size)).size)).size)) (fun hHeld => ?_)
                    try simp only [Act.put, List.setIfInBounds_toArray, List.set_cons_zero, List.set_cons_succ, List.getElem_toArray, List.getElem_cons_succ, List.getElem_cons_zero]
                    refine take_at (some 135) (i := 43) (v := ?_) rfl rfl (by kernel_rfl) (by kernel_rfl) (by kernel_rfl) (fun _ _ _ h => h) (Or.inl ⟨by kernel_rfl, ?_⟩) hHeld ?_
                    rotate_left
                    · intro wz hSw; go_simp; try (with_reducible rfl)
                    try simp only [Act.put, List.setIfInBounds_toArray, List.set_cons_zero, List.set_cons_succ, List.getElem_toArray, List.getElem_cons_succ, List.getElem_cons_zero]
                    refine take_at (some 136) (i := 44) (v := ?_) rfl rfl (by kernel_rfl) (by kernel_rfl) (by kernel_rfl) (fun _ _ _ h => h) (Or.inl ⟨by kernel_rfl, ?_⟩) hHeld ?_
                    rotate_left
                    · intro wz hSw; go_simp; try (with_reducible rfl)
                    try simp only [Act.put, List.setIfInBounds_toArray, List.set_cons_zero, List.set_cons_succ, List.getElem_toArray, List.getElem_cons_succ, List.getElem_cons_zero]
                    refine take_at (some 137) (i := 45) (v := ?_) rfl rfl (by kernel_rfl) (by kernel_rfl) (by kernel_rfl) (fun _ _ _ h => h) (Or.inl ⟨by kernel_rfl, ?_⟩) hHeld ?_
                    rotate_left
                    · intro wz hSw; go_simp; try (with_reducible rfl)
                    try simp only [Act.put, List.setIfInBounds_toArray, List.set_cons_zero, List.set_cons_succ, List.getElem_toArray, List.getElem_cons_succ, List.getElem_cons_zero]
                    refine wpAnyH_done (by kernel_rfl) ?_ _
                    have hbb := (((((Below.refl wr.heap.size wr).drew).trans (hy1.mono ((Below.refl wr.heap.size wr).drew).size)).trans (hy2.mono (((Below.refl wr.heap.size wr).drew).trans (hy1.mono ((Below.refl wr.heap.size wr).drew).size)).size)).trans (hy5.mono ((((Below.refl wr.heap.size wr).drew).trans (hy1.mono ((Below.refl wr.heap.size wr).drew).size)).trans (hy2.mono (((Below.refl wr.heap.size wr).drew).trans (hy1.mono ((Below.refl wr.heap.size wr).drew).size)).size)).size))
                    have HZa := Lib.hid (HZ9.out.on hbb)
                    have HTa := Lib.hid (HT9.out.on hbb)
                    have HUa := Lib.hid (HU9.out.on hbb)
                    clear hbb hHeld
                    go_wp2_with fail
                    go_roundw
                    case rel => exact ⟨2, by omega, by first | rfl | go_num, HZa, HTa, HUa⟩
                    case measure => simp [intOf] <;> omega
                · have hk4 : ¬ ((2 : Int) < 2) := by decide
                  go_wp2_with fail
                  go_roundw
                  case rel => exact ⟨i + 1, p2, G5, J0, J1, F0, F1, by omega, by go_num, HZ9, HE2, HT9, HU9, HS2⟩
                  case measure => simp [intOf] <;> omega
        · have z0 : (os != 0) = true := by simp [hs0]
          have z1 : (os != 1) = true := by simp [hs1]
          clear hs0 hs1
          go_wp2_with fail
          go_roundw
          case rel => exact ⟨i + 1, p, G, I0, I1, E0, E1, by omega, by go_num, HZv, Lib.hid ⟨HE.out.1, HE.out.2.of rfl rfl⟩, HTv, HUv, Lib.hid ⟨HR.out.br, HR.out.a, HR.out.b, HR.out.ea, HR.out.eb⟩⟩
          case measure => simp [intOf] <;> omega
    · have hi2 : ¬ (i : Int) < (n : Int) := by omega
      go_wp2_with fail
      go_ret
      exact ⟨rfl, HZ.out.l⟩
end Go.Proofs.Ytpomeimjgbblmaa
