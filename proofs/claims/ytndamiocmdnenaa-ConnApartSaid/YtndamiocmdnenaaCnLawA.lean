/- ConnApart: what is done of others changes nothing of one: the walk. (Written by gen_cnapart.py.) -/
import Derived.Test.YtndamiocmdnenaaCnApa
import Derived.Test.YtndamiocmdnenaaOpen
import Derived.Test.YtndamiocmdnenaaSpTwo
import Derived.Deep.CutRange
namespace Go.Proofs.Ytndamiocmdnenaa
set_option linter.unusedVariables false
set_option maxRecDepth 100000
set_option linter.unusedSimpArgs false
open Go.RowKit

set_option maxRecDepth 100000 in
set_option maxHeartbeats 16000000 in
theorem walk_ConnApart (A : Option Addr) (L : List OpC) (n c : Nat) (d : Nat) (W : World) (h : InCn W A L n c) (hd : d < 256) :
    Calls Try.prog 4 #[.slice A n c, .int .u8 (d : Int)] W fun e w' => e = .returned (.bool true) ∧ Below W.heap.size W w' := by
  have HI := Lib.hid h
  have hcapn : n ≤ 9223372036854775807 := by have h1 := h.cap; have h2 := h.max; unfold maxLen at h2; omega
  clear h
  obtain ⟨k, hk⟩ : ∃ k, d % 20 = k := ⟨_, rfl⟩
  have hk20 : k < 20 := by omega
  have hr1 : Int.tmod (d : Int) 20 = (k : Int) := by rw [Int.tmod_eq_emod_of_nonneg (by omega)]; omega
  have hr2 : IntKind.i64.wrap (k : Int) = (k : Int) := by rw [IntKind.wrap_i64]; omega
  clear hd hk
  go_enter Try.func4, Try.ntmps4
  go_upto_region 2 with (go_at_call 10; (with_reducible refine (cnhead_ok _).mono ?_); rintro e u1 ⟨rfl, hb⟩; have HB1 := Lib.hid hb; clear hb)
  go_upto_region 3 with (go_at_call 11; (with_reducible refine (c_new HB1.out).mono ?_); rintro e u2 ⟨G2, tb, rfl, h1, h2, h3⟩; have HZ2 := Lib.hid h1; clear h1 h2 h3)
  go_upto_region 4 with (go_at_call 11; (with_reducible refine (c_new HZ2.out.l).mono ?_); rintro e u3 ⟨K3, ub, rfl, h1, h2, h3⟩; have HV3 := Lib.hid (show Vc W u3 G2 tb tc0 K3 ub tc0 from ⟨HZ2.out.on h2, h1, fun y hy hH => by have a1 := HZ2.out.hi y hy; have a2 := h3 y hH; omega⟩); clear h1 h2 h3)
  go_upto_region 5 with (go_at_call 12; (with_reducible refine (cngreat_ok A L n c W _ HI.out HV3.out.l).mono ?_); rintro e uu ⟨⟨v, rfl, hv⟩, hw⟩; rw [hw]; clear hw; cases v)
  all_goals try (go_wp2_with fail; go_ret; exact ⟨rfl, HV3.out.l⟩)
  have h400 : n ≤ 400 := by simpa using hv
  clear hv
  go_wp2_with fail
  go_loopw [8] (fun v8 wr => ∃ (j : Nat) (G : List Nat) (t : Tc) (KK : List Nat) (q : Tc), j ≤ k ∧ v8 = .int .i64 (j : Int) ∧ Hid (Vc W wr G tb t KK ub q) ∧ Hid (On t j ∧ On q j)) (fun v8 _ => k - (intOf v8).toNat)
  case atStart => exact ⟨0, G2, tc0, K3, tc0, by omega, rfl, HV3, Lib.hid ⟨on_new, on_new⟩⟩
  case round =>
    obtain ⟨j, G, t, KK, q, hj, rfl, HV, HO⟩ := hrel
    by_cases hj1 : j < k
    · have hj2 : (j : Int) < (k : Int) := by omega
      obtain ⟨t2, hot, ht2, -⟩ := HO.out.1.more (by omega) 1
      obtain ⟨q2, hoq, hq2, -⟩ := HO.out.2.more (by omega) 1
      have HOT := Lib.hid hot
      have HOQ := Lib.hid hoq
      have HO2 := Lib.hid (And.intro ht2 hq2)
      clear hot hoq ht2 hq2
      go_upto_region 10 with (go_at_call 14; (with_reducible refine (c_open HV.out.z HO.out.1.g (by have := HO.out.1.la; omega) 1 ((j + 1 : Nat) : Int) 0 t2 HOT.out).mono ?_); rintro e u4 ⟨G4, rfl, h1, h2⟩; have HV4 := Lib.hid (HV.out.left h2 h1); clear h1 h2)
      go_wp2_with (go_at_call 14; (with_reducible refine (c_open HV4.out.y HO.out.2.g (by have := HO.out.2.la; omega) 1 ((j + 1 : Nat) : Int) 0 q2 HOQ.out).mono ?_); rintro e u5 ⟨K5, rfl, h1, h2⟩; have HV5 := Lib.hid (HV4.out.right h2 h1); clear h1 h2)
      go_roundw
      case rel => exact ⟨j + 1, G4, t2, K5, q2, by omega, by go_num, HV5, HO2⟩
      case measure => simp [intOf] <;> omega
    · have hj2 : ¬ (j : Int) < (k : Int) := by omega
      obtain rfl : j = k := by omega
      obtain ⟨t2, hot, ht2, ft⟩ := HO.out.1.more (by omega) 7
      obtain ⟨q2, hoq, hq2, fq⟩ := HO.out.2.more (by omega) 7
      obtain ⟨id, hid⟩ : ∃ id, j + 1 = id := ⟨_, rfl⟩
      rw [hid] at hot hoq ht2 hq2 ft fq
      have HOT := Lib.hid hot
      have HOQ := Lib.hid hoq
      have HS5 := Lib.hid (show Sa 0 t2 q2 (id : Int) from ⟨ht2.g, hq2.g, by have := ht2.la; omega, by have := hq2.la; omega, _, ft, fq, rfl⟩)
      have hid20 : id ≤ 20 := by omega
      have HWD := Lib.hid (show WfN (id : Int) from wfN_of (by omega) (by omega))
      clear hot hoq ht2 hq2 ft fq hj2 hj1 hj hid
      go_upto_region 12 with (go_at_call 14; (with_reducible refine (c_open HV.out.z HO.out.1.g (by have := HO.out.1.la; omega) 7 (id : Int) 0 t2 HOT.out).mono ?_); rintro e u4 ⟨G4, rfl, h1, h2⟩; have HV4 := Lib.hid (HV.out.left h2 h1); clear h1 h2)
      go_upto_region 13 with (go_at_call 14; (with_reducible refine (c_open HV4.out.y HO.out.2.g (by have := HO.out.2.la; omega) 7 (id : Int) 0 q2 HOQ.out).mono ?_); rintro e u5 ⟨K5, rfl, h1, h2⟩; have HV5 := Lib.hid (HV4.out.right h2 h1); clear h1 h2)
      clear hr1 hr2 hk20
      go_wp2_with fail
      go_loopw [13] (fun v13 wr => ∃ (i : Nat) (G : List Nat) (t : Tc) (KK : List Nat) (q : Tc), i ≤ n ∧ v13 = .int .i64 (i : Int) ∧ Hid (Vc W wr G tb t KK ub q) ∧ Hid (Sa i t q (id : Int))) (fun v13 _ => n - (intOf v13).toNat)
      case atStart => exact ⟨0, G4, t2, K5, q2, by omega, rfl, HV5, HS5⟩
      case round =>
        obtain ⟨i, G, t, KK, q, hi, rfl, HV, HS⟩ := hrel
        by_cases hi1 : i < n
        · have hi2 : (i : Int) < (n : Int) := by omega
          obtain ⟨bx, o, op, rfl, hx, hwf, hc⟩ := HI.out.at_ i hi1
          have HWI := Lib.hid hwf.1
          have HWX := Lib.hid hwf.2.1
          obtain ⟨⟨x0, x1, x2, x3⟩, hok⟩ := hc wr HV.out.l
          obtain ⟨ow, oi, ox, oA, oc, ol⟩ := op
          dsimp only at x0 x1 x2 x3
          obtain ⟨on, hon⟩ : ∃ on, ol.length = on := ⟨_, rfl⟩
          rw [hon] at x3
          have HON := Lib.hid hon
          have HOK := Lib.hid (fun u (hu : Below W.heap.size W u) => (hc u hu).2)
          have HOX := Lib.hid hx
          clear hx hc hok hon hwf
          obtain ⟨kb, hkb⟩ : ∃ kb, wr.heap.size = kb := ⟨_, rfl⟩
          obtain ⟨v, hv⟩ : ∃ v, wr.alloc (.cells #[.int .i64 ow, .int .i64 oi, .int .i64 ox, .slice oA on oc] 30) = v := ⟨_, rfl⟩
          have hbv : Below wr.heap.size wr v := by rw [← hv]; exact (Below.refl _ _).alloc (Nat.le_refl _) _
          have HB := Lib.hid (show Bz v (G ++ KK) kb 30 #[.int .i64 ow, .int .i64 oi, .int .i64 ox, .slice oA on oc] by rw [← hv, ← hkb]; exact Bz.new HV.out.hi _ _)
          have HVv := Lib.hid (HV.out.on hbv)
          go_upto_region 17 with fail
          try rw [hv]
          try rw [hkb]
          clear hv hkb hbv x0 x1 x2 x3
          by_cases h0 : ow = 0
          · subst h0
            have e0 : v.cell? ⟨kb, 0, none⟩ = some (.int .i64 0) := HB.out.b.cell 0
            have e1 : v.cell? ⟨kb, 1, none⟩ = some (.int .i64 oi) := HB.out.b.cell 1
            have e2 : v.cell? ⟨kb, 2, none⟩ = some (.int .i64 ox) := HB.out.b.cell 2
            have e3 : v.cell? ⟨kb, 3, none⟩ = some (.slice oA on oc) := HB.out.b.cell 3
            have HE := Lib.hid (show opC t 2 = (((opC t 2).1.1, (opC t 2).1.2), (opC t 2).2) from rfl)
            go_wp2_with (go_at_call 14; (with_reducible refine (c_open HVv.out.z HS.out.g (by have := HS.out.la; omega) 2 _ _ _ HE.out).mono ?_); rintro e u4 ⟨G4, rfl, h1, h2⟩; have HV4 := Lib.hid (HVv.out.left h2 h1); clear h1 h2)
            have HS4 := Lib.hid (HS.out.open_ 2)
            go_roundw
            case rel => exact ⟨i + 1, G4, _, KK, q, by omega, by go_num, HV4, HS4⟩
            case measure => simp [intOf] <;> omega
          have h0b : (ow == 0) = false := by simp [h0]
          have HN0 := Lib.hid h0
          clear h0
          by_cases hio : oi = (id : Int)
          · subst hio
            have hii : (((id : Nat) : Int) == (id : Int)) = true := by simp
            by_cases h1 : ow = 1
            · subst h1
              have e0 : v.cell? ⟨kb, 0, none⟩ = some (.int .i64 1) := HB.out.b.cell 0
              have e1 : v.cell? ⟨kb, 1, none⟩ = some (.int .i64 (id : Int)) := HB.out.b.cell 1
              have e2 : v.cell? ⟨kb, 2, none⟩ = some (.int .i64 ox) := HB.out.b.cell 2
              have e3 : v.cell? ⟨kb, 3, none⟩ = some (.slice oA on oc) := HB.out.b.cell 3
              go_wp2_with fail
              go_roundw
              case rel => exact ⟨i + 1, G, t, KK, q, by omega, by go_num, HVv, Lib.hid HS.out.more⟩
              case measure => simp [intOf] <;> omega
            have h1b : (ow == 1) = false := by simp [h1]
            have HN1 := Lib.hid h1
            clear h1
            have e0 : v.cell? ⟨kb, 0, none⟩ = some (.int .i64 ow) := HB.out.b.cell 0
            have e1 : v.cell? ⟨kb, 1, none⟩ = some (.int .i64 (id : Int)) := HB.out.b.cell 1
            have e2 : v.cell? ⟨kb, 2, none⟩ = some (.int .i64 ox) := HB.out.b.cell 2
            have e3 : v.cell? ⟨kb, 3, none⟩ = some (.slice oA on oc) := HB.out.b.cell 3
            go_upto_if 90 with fail
            go_cut [13] from 58 to 165 (fun v13 wx => ∃ (G5 : List Nat) (t2 : Tc) (K5 : List Nat) (q2 : Tc), v13 = .int .i64 (i : Int) ∧ Hid (Vc W wx G5 tb t2 K5 ub q2) ∧ Hid (Sa (i + 1) t2 q2 (id : Int)))
            case first =>
              by_cases h9 : ow = 9
              · subst h9
                obtain ⟨l, t2, q2, hft, hfq, hsn⟩ := HS.out.flush
                obtain ⟨ln, hln⟩ : ∃ ln, l.length = ln := ⟨_, rfl⟩
                have HLN := Lib.hid hln
                have HFL := Lib.hid (And.intro hft hfq)
                have HSN := Lib.hid hsn
                clear hln hft hfq hsn
                go_upto_region 21 with fail
                have HVD := Lib.hid ((Below.refl v.heap.size v).drew)
                have HVd := Lib.hid (HVv.out.on HVD.out)
                have HBd := Lib.hid (show Bz v.drew (G ++ KK) kb 30 #[.int .i64 9, .int .i64 (id : Int), .int .i64 ox, .slice oA on oc] from ⟨HB.out.b.drew, HB.out.n⟩)
                clear e0 e1 e2 e3
                try simp only [List.cons_append, List.nil_append]
                refine wp_region_held_drew (S := fun wz => Bk wz kb 30 #[.int .i64 9, .int .i64 (id : Int), .int .i64 ox, .slice oA on oc]) (by kernel_rfl) (HBd.out.b) (fun hHeld => ?_)
                refine take_at (some 91) (i := 0) (v := ?_) rfl rfl (by kernel_rfl) (by kernel_rfl) (by kernel_rfl) (fun _ _ _ h => h) (Or.inl ⟨by kernel_rfl, ?_⟩) hHeld ?_
                rotate_left
                · intro wz hSw; go_simp; try (with_reducible rfl)
                try simp only [Act.put, List.setIfInBounds_toArray, List.set_cons_zero, List.set_cons_succ, List.getElem_toArray, List.getElem_cons_succ, List.getElem_cons_zero]
                refine take_at (some 92) (i := 1) (v := ?_) rfl rfl (by kernel_rfl) (by kernel_rfl) (by kernel_rfl) (fun _ _ _ h => h) (Or.inl ⟨by kernel_rfl, ?_⟩) hHeld ?_
                rotate_left
                · intro wz hSw; go_simp; try (with_reducible rfl)
                try simp only [Act.put, List.setIfInBounds_toArray, List.set_cons_zero, List.set_cons_succ, List.getElem_toArray, List.getElem_cons_succ, List.getElem_cons_zero]
                refine take_at (some 95) (i := 4) (v := ?_) rfl rfl (by kernel_rfl) (by kernel_rfl) (by kernel_rfl) (fun _ _ _ h => h) (Or.inl ⟨by kernel_rfl, ?_⟩) hHeld ?_
                rotate_left
                · intro wz hSw; go_simp; try (with_reducible rfl)
                try simp only [Act.put, List.setIfInBounds_toArray, List.set_cons_zero, List.set_cons_succ, List.getElem_toArray, List.getElem_cons_succ, List.getElem_cons_zero]
                refine take_at (some 96) (i := 5) (v := ?_) rfl rfl (by kernel_rfl) (by kernel_rfl) (by kernel_rfl) (fun _ _ _ h => h) (Or.inl ⟨by kernel_rfl, ?_⟩) hHeld ?_
                rotate_left
                · intro wz hSw; go_simp; try (with_reducible rfl)
                try simp only [Act.put, List.setIfInBounds_toArray, List.set_cons_zero, List.set_cons_succ, List.getElem_toArray, List.getElem_cons_succ, List.getElem_cons_zero]
                refine wpAnyH_ready (rs := [2]) (by kernel_rfl) (by simp) (AllReadyH.cons rfl (fun K hK => ?_) AllReadyH.nil)
                rw [if_pos (by kernel_rfl)]
                go_simp
                refine (c_flush HVd.out.z HS.out.g (id : Int) ln l t2 HFL.out.1 HLN.out HWD.out).mono ?_
                rintro e u1 ⟨A1, c1, rfl, g1, g2, g3⟩
                try dsimp only
                have HV1 := Lib.hid (HVd.out.left g3 g2)
                have HR1 := Lib.hid (g1.rf (G := G ++ KK) (fun y hy => .inr (HVd.out.hi y hy)))
                have HS1 := Lib.hid (show Sp _ u1 (G ++ KK) (G ++ KK) from g3.left KK)
                have HB1 := Lib.hid (HBd.out.step HS1.out)
                clear g1 g2 g3
                refine hK.out _ _ HB1.out.b (fun hHeld => ?_)
                try simp only [Act.put, List.setIfInBounds_toArray, List.set_cons_zero, List.set_cons_succ, List.getElem_toArray, List.getElem_cons_succ, List.getElem_cons_zero]
                refine wpAnyH_ready (rs := [3, 6]) (by kernel_rfl) (by simp) (AllReadyH.cons rfl (fun K hK => ?_) (AllReadyH.cons rfl (fun K hK => ?_) AllReadyH.nil))
                · rw [if_pos (by kernel_rfl)]
                  have qq11 : (convert 28 9 (.slice A1 ln c1)).run Try.prog u1 = .ok (.string (bs l)) u1 := str_of (P := Try.prog) HR1.out.rb 28 5 9 Try.underlying28 Try.underlying5 Try.underlying9 ln c1 HLN.out
                  go_simp
                  refine hK.out _ _ (HB1.out.b) (fun hHeld => ?_)
                  try simp only [Act.put, List.setIfInBounds_toArray, List.set_cons_zero, List.set_cons_succ, List.getElem_toArray, List.getElem_cons_succ, List.getElem_cons_zero]
                  refine wpAnyH_ready (rs := [6]) (by kernel_rfl) (by simp) (AllReadyH.cons rfl (fun K hK => ?_) AllReadyH.nil)
                  rw [if_pos (by kernel_rfl)]
                  go_simp
                  refine (c_flush HV1.out.y HS.out.k (id : Int) ln l q2 HFL.out.2 HLN.out HWD.out).mono ?_
                  rintro e u2 ⟨A2, c2, rfl, g1, g2, g3⟩
                  try dsimp only
                  have HV2 := Lib.hid (HV1.out.right g3 g2)
                  have HR2 := Lib.hid (g1.rf (G := G ++ KK) (fun y hy => .inr (HV1.out.hi y hy)))
                  have HS2 := Lib.hid (show Sp _ u2 (G ++ KK) (G ++ KK) from g3.right G)
                  have HB2 := Lib.hid (HB1.out.step HS2.out)
                  clear g1 g2 g3
                  refine hK.out _ _ HB2.out.b (fun hHeld => ?_)
                  try simp only [Act.put, List.setIfInBounds_toArray, List.set_cons_zero, List.set_cons_succ, List.getElem_toArray, List.getElem_cons_succ, List.getElem_cons_zero]
                  refine wpAnyH_ready (rs := [7]) (by kernel_rfl) (by simp) (AllReadyH.cons rfl (fun K hK => ?_) AllReadyH.nil)
                  rw [if_pos (by kernel_rfl)]
                  have qq22 : (convert 28 9 (.slice A2 ln c2)).run Try.prog u2 = .ok (.string (bs l)) u2 := str_of (P := Try.prog) HR2.out.rb 28 5 9 Try.underlying28 Try.underlying5 Try.underlying9 ln c2 HLN.out
                  go_simp
                  refine hK.out _ _ (HB2.out.b) (fun hHeld => ?_)
                  try simp only [Act.put, List.setIfInBounds_toArray, List.set_cons_zero, List.set_cons_succ, List.getElem_toArray, List.getElem_cons_succ, List.getElem_cons_zero]
                  refine take_at (some 99) (i := 8) (v := ?_) rfl rfl (by kernel_rfl) (by kernel_rfl) (by kernel_rfl) (fun _ _ _ h => h) (Or.inl ⟨by kernel_rfl, ?_⟩) hHeld ?_
                  rotate_left
                  · intro wz hSw; go_simp; try (with_reducible rfl)
                  try simp only [Act.put, List.setIfInBounds_toArray, List.set_cons_zero, List.set_cons_succ, List.getElem_toArray, List.getElem_cons_succ, List.getElem_cons_zero]
                  refine wpAnyH_done (by kernel_rfl) ?_ _
                  clear hHeld
                  have HVe := HV2
                  go_wp2_with fail
                  go_meet
                  case rel => exact ⟨G, t2, KK, q2, rfl, HVe, HSN⟩
                · rw [if_pos (by kernel_rfl)]
                  go_simp
                  refine (c_flush HV1.out.y HS.out.k (id : Int) ln l q2 HFL.out.2 HLN.out HWD.out).mono ?_
                  rintro e u3 ⟨A3, c3, rfl, g1, g2, g3⟩
                  try dsimp only
                  have HV3 := Lib.hid (HV1.out.right g3 g2)
                  have HR3 := Lib.hid (g1.rf (G := G ++ KK) (fun y hy => .inr (HV1.out.hi y hy)))
                  have HS3 := Lib.hid (show Sp _ u3 (G ++ KK) (G ++ KK) from g3.right G)
                  have HB3 := Lib.hid (HB1.out.step HS3.out)
                  clear g1 g2 g3
                  refine hK.out _ _ HB3.out.b (fun hHeld => ?_)
                  try simp only [Act.put, List.setIfInBounds_toArray, List.set_cons_zero, List.set_cons_succ, List.getElem_toArray, List.getElem_cons_succ, List.getElem_cons_zero]
                  have HQ3 := Lib.hid (HR1.out.step HS3.out)
                  refine wpAnyH_ready (rs := [3, 7]) (by kernel_rfl) (by simp) (AllReadyH.cons rfl (fun K hK => ?_) (AllReadyH.cons rfl (fun K hK => ?_) AllReadyH.nil))
                  · rw [if_pos (by kernel_rfl)]
                    have qq13 : (convert 28 9 (.slice A1 ln c1)).run Try.prog u3 = .ok (.string (bs l)) u3 := str_of (P := Try.prog) HQ3.out.rb 28 5 9 Try.underlying28 Try.underlying5 Try.underlying9 ln c1 HLN.out
                    go_simp
                    refine hK.out _ _ (HB3.out.b) (fun hHeld => ?_)
                    try simp only [Act.put, List.setIfInBounds_toArray, List.set_cons_zero, List.set_cons_succ, List.getElem_toArray, List.getElem_cons_succ, List.getElem_cons_zero]
                    refine wpAnyH_ready (rs := [7]) (by kernel_rfl) (by simp) (AllReadyH.cons rfl (fun K hK => ?_) AllReadyH.nil)
                    rw [if_pos (by kernel_rfl)]
                    have qq33 : (convert 28 9 (.slice A3 ln c3)).run Try.prog u3 = .ok (.string (bs l)) u3 := str_of (P := Try.prog) HR3.out.rb 28 5 9 Try.underlying28 Try.underlying5 Try.underlying9 ln c3 HLN.out
                    go_simp
                    refine hK.out _ _ (HB3.out.b) (fun hHeld => ?_)
                    try simp only [Act.put, List.setIfInBounds_toArray, List.set_cons_zero, List.set_cons_succ, List.getElem_toArray, List.getElem_cons_succ, List.getElem_cons_zero]
                    refine take_at (some 99) (i := 8) (v := ?_) rfl rfl (by kernel_rfl) (by kernel_rfl) (by kernel_rfl) (fun _ _ _ h => h) (Or.inl ⟨by kernel_rfl, ?_⟩) hHeld ?_
                    rotate_left
                    · intro wz hSw; go_simp; try (with_reducible rfl)
                    try simp only [Act.put, List.setIfInBounds_toArray, List.set_cons_zero, List.set_cons_succ, List.getElem_toArray, List.getElem_cons_succ, List.getElem_cons_zero]
                    refine wpAnyH_done (by kernel_rfl) ?_ _
                    clear hHeld
                    have HVe := HV3
                    go_wp2_with fail
                    go_meet
                    case rel => exact ⟨G, t2, KK, q2, rfl, HVe, HSN⟩
                  · rw [if_pos (by kernel_rfl)]
                    have qq33 : (convert 28 9 (.slice A3 ln c3)).run Try.prog u3 = .ok (.string (bs l)) u3 := str_of (P := Try.prog) HR3.out.rb 28 5 9 Try.underlying28 Try.underlying5 Try.underlying9 ln c3 HLN.out
                    go_simp
                    refine hK.out _ _ (HB3.out.b) (fun hHeld => ?_)
                    try simp only [Act.put, List.setIfInBounds_toArray, List.set_cons_zero, List.set_cons_succ, List.getElem_toArray, List.getElem_cons_succ, List.getElem_cons_zero]
                    refine wpAnyH_ready (rs := [3]) (by kernel_rfl) (by simp) (AllReadyH.cons rfl (fun K hK => ?_) AllReadyH.nil)
                    rw [if_pos (by kernel_rfl)]
                    have qq13 : (convert 28 9 (.slice A1 ln c1)).run Try.prog u3 = .ok (.string (bs l)) u3 := str_of (P := Try.prog) HQ3.out.rb 28 5 9 Try.underlying28 Try.underlying5 Try.underlying9 ln c1 HLN.out
                    go_simp
                    refine hK.out _ _ (HB3.out.b) (fun hHeld => ?_)
                    try simp only [Act.put, List.setIfInBounds_toArray, List.set_cons_zero, List.set_cons_succ, List.getElem_toArray, List.getElem_cons_succ, List.getElem_cons_zero]
                    refine take_at (some 99) (i := 8) (v := ?_) rfl rfl (by kernel_rfl) (by kernel_rfl) (by kernel_rfl) (fun _ _ _ h => h) (Or.inl ⟨by kernel_rfl, ?_⟩) hHeld ?_
                    rotate_left
                    · intro wz hSw; go_simp; try (with_reducible rfl)
                    try simp only [Act.put, List.setIfInBounds_toArray, List.set_cons_zero, List.set_cons_succ, List.getElem_toArray, List.getElem_cons_succ, List.getElem_cons_zero]
                    refine wpAnyH_done (by kernel_rfl) ?_ _
                    clear hHeld
                    have HVe := HV3
                    go_wp2_with fail
                    go_meet
                    case rel => exact ⟨G, t2, KK, q2, rfl, HVe, HSN⟩
              have h9b : (ow == 9) = false := by simp [h9]
              clear h9
              by_cases h5 : ow = 5
              · subst h5
                obtain ⟨l, t2, q2, hft, hfq, hsn⟩ := HS.out.rest ox
                obtain ⟨ln, hln⟩ : ∃ ln, l.length = ln := ⟨_, rfl⟩
                have HLN := Lib.hid hln
                have HFL := Lib.hid (And.intro hft hfq)
                have HSN := Lib.hid hsn
                clear hln hft hfq hsn
                go_upto_region 24 with fail
                have HVD := Lib.hid ((Below.refl v.heap.size v).drew)
                have HVd := Lib.hid (HVv.out.on HVD.out)
                have HBd := Lib.hid (show Bz v.drew (G ++ KK) kb 30 #[.int .i64 5, .int .i64 (id : Int), .int .i64 ox, .slice oA on oc] from ⟨HB.out.b.drew, HB.out.n⟩)
                clear e0 e1 e2 e3
                try simp only [List.cons_append, List.nil_append]
                refine wp_region_held_drew (S := fun wz => Bk wz kb 30 #[.int .i64 5, .int .i64 (id : Int), .int .i64 ox, .slice oA on oc]) (by kernel_rfl) (HBd.out.b) (fun hHeld => ?_)
                refine take_at (some 109) (i := 0) (v := ?_) rfl rfl (by kernel_rfl) (by kernel_rfl) (by kernel_rfl) (fun _ _ _ h => h) (Or.inl ⟨by kernel_rfl, ?_⟩) hHeld ?_
                rotate_left
                · intro wz hSw; go_simp; try (with_reducible rfl)
                try simp only [Act.put, List.setIfInBounds_toArray, List.set_cons_zero, List.set_cons_succ, List.getElem_toArray, List.getElem_cons_succ, List.getElem_cons_zero]
                refine take_at (some 110) (i := 1) (v := ?_) rfl rfl (by kernel_rfl) (by kernel_rfl) (by kernel_rfl) (fun _ _ _ h => h) (Or.inl ⟨by kernel_rfl, ?_⟩) hHeld ?_
                rotate_left
                · intro wz hSw; go_simp; try (with_reducible rfl)
                try simp only [Act.put, List.setIfInBounds_toArray, List.set_cons_zero, List.set_cons_succ, List.getElem_toArray, List.getElem_cons_succ, List.getElem_cons_zero]
                refine take_at (some 111) (i := 2) (v := ?_) rfl rfl (by kernel_rfl) (by kernel_rfl) (by kernel_rfl) (fun _ _ _ h => h) (Or.inl ⟨by kernel_rfl, ?_⟩) hHeld ?_
                rotate_left
                · intro wz hSw; go_simp; try (with_reducible rfl)
                try simp only [Act.put, List.setIfInBounds_toArray, List.set_cons_zero, List.set_cons_succ, List.getElem_toArray, List.getElem_cons_succ, List.getElem_cons_zero]
                refine take_at (some 112) (i := 3) (v := ?_) rfl rfl (by kernel_rfl) (by kernel_rfl) (by kernel_rfl) (fun _ _ _ h => h) (Or.inl ⟨by kernel_rfl, ?_⟩) hHeld ?_
                rotate_left
                · intro wz hSw; have e2 := hSw.cell 2; go_simp; try (with_reducible rfl)
                try simp only [Act.put, List.setIfInBounds_toArray, List.set_cons_zero, List.set_cons_succ, List.getElem_toArray, List.getElem_cons_succ, List.getElem_cons_zero]
                refine take_at (some 115) (i := 6) (v := ?_) rfl rfl (by kernel_rfl) (by kernel_rfl) (by kernel_rfl) (fun _ _ _ h => h) (Or.inl ⟨by kernel_rfl, ?_⟩) hHeld ?_
                rotate_left
                · intro wz hSw; go_simp; try (with_reducible rfl)
                try simp only [Act.put, List.setIfInBounds_toArray, List.set_cons_zero, List.set_cons_succ, List.getElem_toArray, List.getElem_cons_succ, List.getElem_cons_zero]
                refine take_at (some 116) (i := 7) (v := ?_) rfl rfl (by kernel_rfl) (by kernel_rfl) (by kernel_rfl) (fun _ _ _ h => h) (Or.inl ⟨by kernel_rfl, ?_⟩) hHeld ?_
                rotate_left
                · intro wz hSw; go_simp; try (with_reducible rfl)
                try simp only [Act.put, List.setIfInBounds_toArray, List.set_cons_zero, List.set_cons_succ, List.getElem_toArray, List.getElem_cons_succ, List.getElem_cons_zero]
                refine take_at (some 117) (i := 8) (v := ?_) rfl rfl (by kernel_rfl) (by kernel_rfl) (by kernel_rfl) (fun _ _ _ h => h) (Or.inl ⟨by kernel_rfl, ?_⟩) hHeld ?_
                rotate_left
                · intro wz hSw; go_simp; try (with_reducible rfl)
                try simp only [Act.put, List.setIfInBounds_toArray, List.set_cons_zero, List.set_cons_succ, List.getElem_toArray, List.getElem_cons_succ, List.getElem_cons_zero]
                refine take_at (some 118) (i := 9) (v := ?_) rfl rfl (by kernel_rfl) (by kernel_rfl) (by kernel_rfl) (fun _ _ _ h => h) (Or.inl ⟨by kernel_rfl, ?_⟩) hHeld ?_
                rotate_left
                · intro wz hSw; have e2 := hSw.cell 2; go_simp; try (with_reducible rfl)
                try simp only [Act.put, List.setIfInBounds_toArray, List.set_cons_zero, List.set_cons_succ, List.getElem_toArray, List.getElem_cons_succ, List.getElem_cons_zero]
                refine wpAnyH_ready (rs := [4]) (by kernel_rfl) (by simp) (AllReadyH.cons rfl (fun K hK => ?_) AllReadyH.nil)
                rw [if_pos (by kernel_rfl)]
                go_simp
                refine (c_rest HVd.out.z HS.out.g (id : Int) ox ln l t2 HFL.out.1 HLN.out HWD.out).mono ?_
                rintro e u1 ⟨A1, c1, rfl, g1, g2, g3⟩
                try dsimp only
                have HV1 := Lib.hid (HVd.out.left g3 g2)
                have HR1 := Lib.hid (g1.rf (G := G ++ KK) (fun y hy => .inr (HVd.out.hi y hy)))
                have HS1 := Lib.hid (show Sp _ u1 (G ++ KK) (G ++ KK) from g3.left KK)
                have HB1 := Lib.hid (HBd.out.step HS1.out)
                clear g1 g2 g3
                refine hK.out _ _ HB1.out.b (fun hHeld => ?_)
                try simp only [Act.put, List.setIfInBounds_toArray, List.set_cons_zero, List.set_cons_succ, List.getElem_toArray, List.getElem_cons_succ, List.getElem_cons_zero]
                refine wpAnyH_ready (rs := [5, 10]) (by kernel_rfl) (by simp) (AllReadyH.cons rfl (fun K hK => ?_) (AllReadyH.cons rfl (fun K hK => ?_) AllReadyH.nil))
                · rw [if_pos (by kernel_rfl)]
                  have qq11 : (convert 28 9 (.slice A1 ln c1)).run Try.prog u1 = .ok (.string (bs l)) u1 := str_of (P := Try.prog) HR1.out.rb 28 5 9 Try.underlying28 Try.underlying5 Try.underlying9 ln c1 HLN.out
                  go_simp
                  refine hK.out _ _ (HB1.out.b) (fun hHeld => ?_)
                  try simp only [Act.put, List.setIfInBounds_toArray, List.set_cons_zero, List.set_cons_succ, List.getElem_toArray, List.getElem_cons_succ, List.getElem_cons_zero]
                  refine wpAnyH_ready (rs := [10]) (by kernel_rfl) (by simp) (AllReadyH.cons rfl (fun K hK => ?_) AllReadyH.nil)
                  rw [if_pos (by kernel_rfl)]
                  go_simp
                  refine (c_rest HV1.out.y HS.out.k (id : Int) ox ln l q2 HFL.out.2 HLN.out HWD.out).mono ?_
                  rintro e u2 ⟨A2, c2, rfl, g1, g2, g3⟩
                  try dsimp only
                  have HV2 := Lib.hid (HV1.out.right g3 g2)
                  have HR2 := Lib.hid (g1.rf (G := G ++ KK) (fun y hy => .inr (HV1.out.hi y hy)))
                  have HS2 := Lib.hid (show Sp _ u2 (G ++ KK) (G ++ KK) from g3.right G)
                  have HB2 := Lib.hid (HB1.out.step HS2.out)
                  clear g1 g2 g3
                  refine hK.out _ _ HB2.out.b (fun hHeld => ?_)
                  try simp only [Act.put, List.setIfInBounds_toArray, List.set_cons_zero, List.set_cons_succ, List.getElem_toArray, List.getElem_cons_succ, List.getElem_cons_zero]
                  refine wpAnyH_ready (rs := [11]) (by kernel_rfl) (by simp) (AllReadyH.cons rfl (fun K hK => ?_) AllReadyH.nil)
                  rw [if_pos (by kernel_rfl)]
                  have qq22 : (convert 28 9 (.slice A2 ln c2)).run Try.prog u2 = .ok (.string (bs l)) u2 := str_of (P := Try.prog) HR2.out.rb 28 5 9 Try.underlying28 Try.underlying5 Try.underlying9 ln c2 HLN.out
                  go_simp
                  refine hK.out _ _ (HB2.out.b) (fun hHeld => ?_)
                  try simp only [Act.put, List.setIfInBounds_toArray, List.set_cons_zero, List.set_cons_succ, List.getElem_toArray, List.getElem_cons_succ, List.getElem_cons_zero]
                  refine take_at (some 121) (i := 12) (v := ?_) rfl rfl (by kernel_rfl) (by kernel_rfl) (by kernel_rfl) (fun _ _ _ h => h) (Or.inl ⟨by kernel_rfl, ?_⟩) hHeld ?_
                  rotate_left
                  · intro wz hSw; go_simp; try (with_reducible rfl)
                  try simp only [Act.put, List.setIfInBounds_toArray, List.set_cons_zero, List.set_cons_succ, List.getElem_toArray, List.getElem_cons_succ, List.getElem_cons_zero]
                  refine wpAnyH_done (by kernel_rfl) ?_ _
                  clear hHeld
                  have HVe := HV2
                  go_wp2_with fail
                  go_meet
                  case rel => exact ⟨G, t2, KK, q2, rfl, HVe, HSN⟩
                · rw [if_pos (by kernel_rfl)]
                  go_simp
                  refine (c_rest HV1.out.y HS.out.k (id : Int) ox ln l q2 HFL.out.2 HLN.out HWD.out).mono ?_
                  rintro e u3 ⟨A3, c3, rfl, g1, g2, g3⟩
                  try dsimp only
                  have HV3 := Lib.hid (HV1.out.right g3 g2)
                  have HR3 := Lib.hid (g1.rf (G := G ++ KK) (fun y hy => .inr (HV1.out.hi y hy)))
                  have HS3 := Lib.hid (show Sp _ u3 (G ++ KK) (G ++ KK) from g3.right G)
                  have HB3 := Lib.hid (HB1.out.step HS3.out)
                  clear g1 g2 g3
                  refine hK.out _ _ HB3.out.b (fun hHeld => ?_)
                  try simp only [Act.put, List.setIfInBounds_toArray, List.set_cons_zero, List.set_cons_succ, List.getElem_toArray, List.getElem_cons_succ, List.getElem_cons_zero]
                  have HQ3 := Lib.hid (HR1.out.step HS3.out)
                  refine wpAnyH_ready (rs := [5, 11]) (by kernel_rfl) (by simp) (AllReadyH.cons rfl (fun K hK => ?_) (AllReadyH.cons rfl (fun K hK => ?_) AllReadyH.nil))
                  · rw [if_pos (by kernel_rfl)]
                    have qq13 : (convert 28 9 (.slice A1 ln c1)).run Try.prog u3 = .ok (.string (bs l)) u3 := str_of (P := Try.prog) HQ3.out.rb 28 5 9 Try.underlying28 Try.underlying5 Try.underlying9 ln c1 HLN.out
                    go_simp
                    refine hK.out _ _ (HB3.out.b) (fun hHeld => ?_)
                    try simp only [Act.put, List.setIfInBounds_toArray, List.set_cons_zero, List.set_cons_succ, List.getElem_toArray, List.getElem_cons_succ, List.getElem_cons_zero]
                    refine wpAnyH_ready (rs := [11]) (by kernel_rfl) (by simp) (AllReadyH.cons rfl (fun K hK => ?_) AllReadyH.nil)
                    rw [if_pos (by kernel_rfl)]
                    have qq33 : (convert 28 9 (.slice A3 ln c3)).run Try.prog u3 = .ok (.string (bs l)) u3 := str_of (P := Try.prog) HR3.out.rb 28 5 9 Try.underlying28 Try.underlying5 Try.underlying9 ln c3 HLN.out
                    go_simp
                    refine hK.out _ _ (HB3.out.b) (fun hHeld => ?_)
                    try simp only [Act.put, List.setIfInBounds_toArray, List.set_cons_zero, List.set_cons_succ, List.getElem_toArray, List.getElem_cons_succ, List.getElem_cons_zero]
                    refine take_at (some 121) (i := 12) (v := ?_) rfl rfl (by kernel_rfl) (by kernel_rfl) (by kernel_rfl) (fun _ _ _ h => h) (Or.inl ⟨by kernel_rfl, ?_⟩) hHeld ?_
                    rotate_left
                    · intro wz hSw; go_simp; try (with_reducible rfl)
                    try simp only [Act.put, List.setIfInBounds_toArray, List.set_cons_zero, List.set_cons_succ, List.getElem_toArray, List.getElem_cons_succ, List.getElem_cons_zero]
                    refine wpAnyH_done (by kernel_rfl) ?_ _
                    clear hHeld
                    have HVe := HV3
                    go_wp2_with fail
                    go_meet
                    case rel => exact ⟨G, t2, KK, q2, rfl, HVe, HSN⟩
                  · rw [if_pos (by kernel_rfl)]
                    have qq33 : (convert 28 9 (.slice A3 ln c3)).run Try.prog u3 = .ok (.string (bs l)) u3 := str_of (P := Try.prog) HR3.out.rb 28 5 9 Try.underlying28 Try.underlying5 Try.underlying9 ln c3 HLN.out
                    go_simp
                    refine hK.out _ _ (HB3.out.b) (fun hHeld => ?_)
                    try simp only [Act.put, List.setIfInBounds_toArray, List.set_cons_zero, List.set_cons_succ, List.getElem_toArray, List.getElem_cons_succ, List.getElem_cons_zero]
                    refine wpAnyH_ready (rs := [5]) (by kernel_rfl) (by simp) (AllReadyH.cons rfl (fun K hK => ?_) AllReadyH.nil)
                    rw [if_pos (by kernel_rfl)]
                    have qq13 : (convert 28 9 (.slice A1 ln c1)).run Try.prog u3 = .ok (.string (bs l)) u3 := str_of (P := Try.prog) HQ3.out.rb 28 5 9 Try.underlying28 Try.underlying5 Try.underlying9 ln c1 HLN.out
                    go_simp
                    refine hK.out _ _ (HB3.out.b) (fun hHeld => ?_)
                    try simp only [Act.put, List.setIfInBounds_toArray, List.set_cons_zero, List.set_cons_succ, List.getElem_toArray, List.getElem_cons_succ, List.getElem_cons_zero]
                    refine take_at (some 121) (i := 12) (v := ?_) rfl rfl (by kernel_rfl) (by kernel_rfl) (by kernel_rfl) (fun _ _ _ h => h) (Or.inl ⟨by kernel_rfl, ?_⟩) hHeld ?_
                    rotate_left
                    · intro wz hSw; go_simp; try (with_reducible rfl)
                    try simp only [Act.put, List.setIfInBounds_toArray, List.set_cons_zero, List.set_cons_succ, List.getElem_toArray, List.getElem_cons_succ, List.getElem_cons_zero]
                    refine wpAnyH_done (by kernel_rfl) ?_ _
                    clear hHeld
                    have HVe := HV3
                    go_wp2_with fail
                    go_meet
                    case rel => exact ⟨G, t2, KK, q2, rfl, HVe, HSN⟩
              have h5b : (ow == 5) = false := by simp [h5]
              clear h5
              have HDT := Lib.hid (does_ok HVv.out.z HS.out.g (by have := HS.out.la; omega) ⟨ow, (id : Int), ox, oA, oc, ol⟩ on HON.out HWI.out (HOK.out v HVv.out.l))
              have HSN := Lib.hid (HS.out.both ⟨ow, (id : Int), ox, oA, oc, ol⟩ rfl HN0.out HN1.out)
              go_upto_region 27 with (go_at_call 17; (with_reducible refine (HDT.out).mono ?_); rintro e u4 ⟨G4, rfl, h1, h2⟩; have HV4 := Lib.hid (HVv.out.left h2 h1); have HB4 := Lib.hid (HB.out.step (h2.left KK)); clear h1 h2)
              clear e0 e1 e2 e3
              have e0 : u4.cell? ⟨kb, 0, none⟩ = some (.int .i64 ow) := HB4.out.b.cell 0
              have e1 : u4.cell? ⟨kb, 1, none⟩ = some (.int .i64 (id : Int)) := HB4.out.b.cell 1
              have e2 : u4.cell? ⟨kb, 2, none⟩ = some (.int .i64 ox) := HB4.out.b.cell 2
              have e3 : u4.cell? ⟨kb, 3, none⟩ = some (.slice oA on oc) := HB4.out.b.cell 3
              have HDQ := Lib.hid (does_ok HV4.out.y HS.out.k (by have := HS.out.lb; omega) ⟨ow, (id : Int), ox, oA, oc, ol⟩ on HON.out HWI.out (HOK.out u4 HV4.out.l))
              go_wp2_with (go_at_call 17; (with_reducible refine (HDQ.out).mono ?_); rintro e u5 ⟨K5, rfl, h1, h2⟩; have HV5 := Lib.hid (HV4.out.right h2 h1); clear h1 h2)
              go_meet
              case rel => exact ⟨G4, _, K5, _, rfl, HV5, HSN⟩
            case rest =>
              obtain ⟨G5, t2, K5, q2, rfl, HV5, HS5⟩ := hcut
              obtain ⟨ca, wa, cr, en, h1, h2, h3, h4⟩ := HS5.out.tells
              have HT := Lib.hid (And.intro h1 (And.intro h2 (And.intro h3 h4)))
              clear h1 h2 h3 h4
              go_wp2_with (first
                | (go_at_call 20; (with_reducible refine (c_came HV5.out.z (id : Int) ca HT.out.1.1 HWD.out).mono ?_); rintro e y5 ⟨rfl, h1⟩; have HV6 := Lib.hid (HV5.out.on h1); clear h1)
                | (go_at_call 20; (with_reducible refine (c_came HV6.out.y (id : Int) ca HT.out.1.2 HWD.out).mono ?_); rintro e y6 ⟨rfl, h1⟩; have HV7 := Lib.hid (HV6.out.on h1); clear h1)
                | (go_at_call 21; (with_reducible refine (c_waits HV7.out.z (id : Int) wa HT.out.2.1.1 HWD.out).mono ?_); rintro e y7 ⟨rfl, h1⟩; have HV8 := Lib.hid (HV7.out.on h1); clear h1)
                | (go_at_call 21; (with_reducible refine (c_waits HV8.out.y (id : Int) wa HT.out.2.1.2 HWD.out).mono ?_); rintro e y8 ⟨rfl, h1⟩; have HV9 := Lib.hid (HV8.out.on h1); clear h1)
                | (go_at_call 22; (with_reducible refine (c_credit HV9.out.z (id : Int) cr HT.out.2.2.1.1 HWD.out).mono ?_); rintro e y9 ⟨rfl, h1⟩; have HV10 := Lib.hid (HV9.out.on h1); clear h1)
                | (go_at_call 22; (with_reducible refine (c_credit HV10.out.y (id : Int) cr HT.out.2.2.1.2 HWD.out).mono ?_); rintro e y10 ⟨rfl, h1⟩; have HV11 := Lib.hid (HV10.out.on h1); clear h1)
                | (go_at_call 23; (with_reducible refine (c_ended HV11.out.z (id : Int) en HT.out.2.2.2.1 HWD.out).mono ?_); rintro e y11 ⟨rfl, h1⟩; have HV12 := Lib.hid (HV11.out.on h1); clear h1)
                | (go_at_call 23; (with_reducible refine (c_ended HV12.out.y (id : Int) en HT.out.2.2.2.2 HWD.out).mono ?_); rintro e y12 ⟨rfl, h1⟩; have HV13 := Lib.hid (HV12.out.on h1); clear h1))
              go_wp2_with fail
              go_roundw
              case rel => exact ⟨i + 1, G5, t2, K5, q2, by omega, by go_num, HV13, HS5⟩
              case measure => simp [intOf] <;> omega
          have hib : (oi == (id : Int)) = false := by simp [hio]
          have HIO := Lib.hid hio
          clear hio
          have e0 : v.cell? ⟨kb, 0, none⟩ = some (.int .i64 ow) := HB.out.b.cell 0
          have e1 : v.cell? ⟨kb, 1, none⟩ = some (.int .i64 oi) := HB.out.b.cell 1
          have e2 : v.cell? ⟨kb, 2, none⟩ = some (.int .i64 ox) := HB.out.b.cell 2
          have e3 : v.cell? ⟨kb, 3, none⟩ = some (.slice oA on oc) := HB.out.b.cell 3
          go_upto_if 90 with fail
          go_cut [13] from 58 to 165 (fun v13 wx => ∃ (G5 : List Nat) (t2 : Tc) (K5 : List Nat) (q2 : Tc), v13 = .int .i64 (i : Int) ∧ Hid (Vc W wx G5 tb t2 K5 ub q2) ∧ Hid (Sa (i + 1) t2 q2 (id : Int)))
          case first =>
            have HDT := Lib.hid (does_ok HVv.out.z HS.out.g (by have := HS.out.la; omega) ⟨ow, oi, ox, oA, oc, ol⟩ on HON.out HWI.out (HOK.out v HVv.out.l))
            have HSN := Lib.hid (HS.out.far ⟨ow, oi, ox, oA, oc, ol⟩ HIO.out HN0.out)
            go_upto_region 27 with (go_at_call 17; (with_reducible refine (HDT.out).mono ?_); rintro e u4 ⟨G4, rfl, h1, h2⟩; have HV4 := Lib.hid (HVv.out.left h2 h1); have HB4 := Lib.hid (HB.out.step (h2.left KK)); clear h1 h2)
            clear e0 e1 e2 e3
            have e0 : u4.cell? ⟨kb, 0, none⟩ = some (.int .i64 ow) := HB4.out.b.cell 0
            have e1 : u4.cell? ⟨kb, 1, none⟩ = some (.int .i64 oi) := HB4.out.b.cell 1
            have e2 : u4.cell? ⟨kb, 2, none⟩ = some (.int .i64 ox) := HB4.out.b.cell 2
            have e3 : u4.cell? ⟨kb, 3, none⟩ = some (.slice oA on oc) := HB4.out.b.cell 3
            go_wp2_with fail
            go_meet
            case rel => exact ⟨G4, _, KK, q, rfl, HV4, HSN⟩
          case rest =>
            obtain ⟨G5, t2, K5, q2, rfl, HV5, HS5⟩ := hcut
            obtain ⟨ca, wa, cr, en, h1, h2, h3, h4⟩ := HS5.out.tells
            have HT := Lib.hid (And.intro h1 (And.intro h2 (And.intro h3 h4)))
            clear h1 h2 h3 h4
            go_wp2_with (first
              | (go_at_call 20; (with_reducible refine (c_came HV5.out.z (id : Int) ca HT.out.1.1 HWD.out).mono ?_); rintro e y5 ⟨rfl, h1⟩; have HV6 := Lib.hid (HV5.out.on h1); clear h1)
              | (go_at_call 20; (with_reducible refine (c_came HV6.out.y (id : Int) ca HT.out.1.2 HWD.out).mono ?_); rintro e y6 ⟨rfl, h1⟩; have HV7 := Lib.hid (HV6.out.on h1); clear h1)
              | (go_at_call 21; (with_reducible refine (c_waits HV7.out.z (id : Int) wa HT.out.2.1.1 HWD.out).mono ?_); rintro e y7 ⟨rfl, h1⟩; have HV8 := Lib.hid (HV7.out.on h1); clear h1)
              | (go_at_call 21; (with_reducible refine (c_waits HV8.out.y (id : Int) wa HT.out.2.1.2 HWD.out).mono ?_); rintro e y8 ⟨rfl, h1⟩; have HV9 := Lib.hid (HV8.out.on h1); clear h1)
              | (go_at_call 22; (with_reducible refine (c_credit HV9.out.z (id : Int) cr HT.out.2.2.1.1 HWD.out).mono ?_); rintro e y9 ⟨rfl, h1⟩; have HV10 := Lib.hid (HV9.out.on h1); clear h1)
              | (go_at_call 22; (with_reducible refine (c_credit HV10.out.y (id : Int) cr HT.out.2.2.1.2 HWD.out).mono ?_); rintro e y10 ⟨rfl, h1⟩; have HV11 := Lib.hid (HV10.out.on h1); clear h1)
              | (go_at_call 23; (with_reducible refine (c_ended HV11.out.z (id : Int) en HT.out.2.2.2.1 HWD.out).mono ?_); rintro e y11 ⟨rfl, h1⟩; have HV12 := Lib.hid (HV11.out.on h1); clear h1)
              | (go_at_call 23; (with_reducible refine (c_ended HV12.out.y (id : Int) en HT.out.2.2.2.2 HWD.out).mono ?_); rintro e y12 ⟨rfl, h1⟩; have HV13 := Lib.hid (HV12.out.on h1); clear h1))
            go_wp2_with fail
            go_roundw
            case rel => exact ⟨i + 1, G5, t2, K5, q2, by omega, by go_num, HV13, HS5⟩
            case measure => simp [intOf] <;> omega
        · have hi2 : ¬ (i : Int) < (n : Int) := by omega
          have HLT := Lib.hid HS.out.last
          go_wp2_with (first
            | (go_at_call 15; have HV0 := HV; (with_reducible refine (c_has HV0.out.z (id : Int) true HLT.out.1 HWD.out).mono ?_); rintro e w4 ⟨rfl, h1⟩; have HV4 := Lib.hid (HV.out.on h1); clear h1 HV HV0)
            | (go_at_call 24; (with_reducible refine (c_addr HV4.out.z (id : Int) 7 HLT.out.2 HWD.out).mono ?_); rintro e w5 ⟨rfl, h1⟩; have HV5 := Lib.hid (HV4.out.on h1); clear h1))
          go_ret
          exact ⟨rfl, HV5.out.l⟩
end Go.Proofs.Ytndamiocmdnenaa
