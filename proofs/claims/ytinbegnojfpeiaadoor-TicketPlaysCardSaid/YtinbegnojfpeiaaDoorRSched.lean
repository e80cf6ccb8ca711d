/- The document's own schedule of a block's words. (Written by gen_rsched.py.) -/
import Derived.Test.YtinbegnojfpeiaaDoorG17
import Derived.Test.YtinbegnojfpeiaaDoorG2
import Derived.StillTailTactics
import Derived.Handy
namespace Go.Proofs.YtinbegnojfpeiaaDoor
set_option linter.unusedVariables false
set_option maxRecDepth 100000
set_option linter.unusedSimpArgs false
open Go.RowKit

theorem rsmall_a (x : Nat) (w : World) (hx : x < 4294967296) : Calls Tryd.prog 62 #[.int .u32 (x : Int), .int .i64 17, .int .i64 19, .int .i64 10] w fun e w' => e = .returned (.int .u32 ((small x 17 19 10 : Nat) : Int)) ∧ Below w.heap.size w w' :=
  (rsmall_ok x 17 19 10 w hx (by omega) (by omega) (by omega)).mono fun e w' ⟨h, m, hm⟩ => by subst hm; exact ⟨h, Below.drewN' (Below.refl _ _) _⟩
theorem rsmall_b (x : Nat) (w : World) (hx : x < 4294967296) : Calls Tryd.prog 62 #[.int .u32 (x : Int), .int .i64 7, .int .i64 18, .int .i64 3] w fun e w' => e = .returned (.int .u32 ((small x 7 18 3 : Nat) : Int)) ∧ Below w.heap.size w w' :=
  (rsmall_ok x 7 18 3 w hx (by omega) (by omega) (by omega)).mono fun e w' ⟨h, m, hm⟩ => by subst hm; exact ⟨h, Below.drewN' (Below.refl _ _) _⟩
theorem sched_low (l : List Nat) (h : l.length = 16) (i : Nat) (hi : i < 16) : (sched l).getD i 0 = l.getD i 0 := by
  have := sched_take l h
  have h2 : ((sched l).take 16).getD i 0 = (sched l).getD i 0 := by rw [List.getD, List.getD, List.getElem?_take_of_lt hi]
  rw [← h2, this]

set_option maxRecDepth 100000 in
set_option maxHeartbeats 2000000 in
theorem rsched_ok (b o c : Nat) (bl : List UInt8) (w : World) (hbl : bl.length = 64) (hb : b < w.heap.size) (hc : 64 ≤ c) (hR : Rb w w.heap.size (some ⟨b, o, none⟩) bl) :
    Calls Tryd.prog 55 #[.slice (some ⟨b, o, none⟩) 64 c] w fun e w' => e = .returned (.agg (wcells (sched (words16 bl 0)))) ∧ Below w.heap.size w w' := by
  have HR := Lib.hid hR
  have HL := Lib.hid (words16_len bl 0)
  have HLT := Lib.hid (sched_lt (words16 bl 0) HL.out (words16_lt bl 0))
  have HAT := Lib.hid (sched_at (words16 bl 0) HL.out)
  have HLO := Lib.hid (show ∀ i, i < 16 → (sched (words16 bl 0)).getD i 0 = wordAt bl (4 * i) from fun i hi => by rw [sched_low _ HL.out i hi, words16_at bl 0 i hi, Nat.zero_add])
  have HSL := Lib.hid (sched_len (words16 bl 0) HL.out)
  have HBL := Lib.hid hbl
  have HBH := Lib.hid hb
  clear hR hbl hb
  obtain ⟨LS, hLS⟩ : ∃ LS, LS = sched (words16 bl 0) := ⟨_, rfl⟩
  rw [← hLS] at HLT HAT HSL HLO ⊢
  clear hLS HL
  go_enter Tryd.func55, Tryd.ntmps55
  go_wp2_with fail
  refine gen_world (fun u => Bk u (w.heap.size + 1) 95 (wcells (pre [] 64)) ∧ Bk u w.heap.size 95 (wcells (pre [] 64)) ∧ Below w.heap.size w u) ?_ (fun w1 hw1 => ?_)
  · refine ⟨Bk.here ?_, Bk.alloc (Bk.here rfl) _, by go_grown⟩
    show _ = (w.heap.push _).size; rw [Array.size_push]
  obtain ⟨hA, hA0, hbel1⟩ := hw1
  have HA := Lib.hid (show Bk w1 (w.heap.size + 1) 95 (wcells (pre (LS.take 0) 64)) from hA)
  have HA0 := Lib.hid hA0
  have HB1 := Lib.hid hbel1
  clear hA hA0 hbel1
  go_loopw [4] (fun v4 wr => ∃ i : Nat, i ≤ 64 ∧ v4 = .int .i64 i ∧ Hid (Bk wr (w.heap.size + 1) 95 (wcells (pre (LS.take i) 64))) ∧ Hid (Bk wr w.heap.size 95 (wcells (pre [] 64))) ∧ Hid (Below w.heap.size w wr)) (fun v4 _ => 64 - (intOf v4).toNat)
  case atStart => exact ⟨0, by omega, rfl, HA, HA0, HB1⟩
  case round =>
    obtain ⟨i, hi2, rfl, HB, HB0, HBB⟩ := hrel
    clear HA HA0 HB1
    by_cases hi : i < 64
    · by_cases hi16 : i < 16
      · have HPN := Lib.hid (pre_next LS 64 i _ HSL.out hi (HLO.out i hi16))
        have hcell : ∀ k, k < 4 → ∃ q cq : Nat, q = 4 * i + k ∧ cq = byteAt bl q ∧ cq < 256 ∧ q < 64 ∧ wr.cell? ⟨b, o + q, none⟩ = some (.int .u8 (cq : Int)) := by
          intro k hk
          have hq : 4 * i + k < bl.length := by rw [HBL.out]; omega
          refine ⟨4 * i + k, _, rfl, rfl, ?_, by omega, ?_⟩
          · unfold byteAt; exact UInt8.toNat_lt _
          · rcases HR.out with h | ⟨b', o', e, hb', hc'⟩
            · rw [h] at hq; simp at hq
            · injection e with e
              injection e with e1 e2
              subst e1; subst e2
              rw [HBB.out.cell (p := ⟨b, o + (4 * i + k), none⟩) HBH.out, hc' _ hq]
              simp [byteAt, List.getD, hq]
        obtain ⟨q0, c0, hq0, hv0, hc0, hb0, g0⟩ := hcell 0 (by omega)
        obtain ⟨q1, c1, hq1, hv1, hc1, hb1, g1⟩ := hcell 1 (by omega)
        obtain ⟨q2, c2, hq2, hv2, hc2, hb2, g2⟩ := hcell 2 (by omega)
        obtain ⟨q3, c3, hq3, hv3, hc3, hb3, g3⟩ := hcell 3 (by omega)
        obtain ⟨w0, w0'⟩ := iwrap (4 * (i : Int)) q0 (by omega) (by omega)
        obtain ⟨w1, w1'⟩ := iwrap ((q0 : Int) + 1) q1 (by omega) (by omega)
        obtain ⟨w2, w2'⟩ := iwrap ((q0 : Int) + 2) q2 (by omega) (by omega)
        obtain ⟨w3, w3'⟩ := iwrap ((q0 : Int) + 3) q3 (by omega) (by omega)
        have b0 : (q0 : Int) < 64 := by omega
        have b1 : (q1 : Int) < 64 := by omega
        have b2 : (q2 : Int) < 64 := by omega
        have b3 : (q3 : Int) < 64 := by omega
        have bi : (i : Int) < 64 := by omega
        have bj : (i : Int) < 16 := by omega
        have r0 : IntKind.u32.wrap (c0 : Int) = (c0 : Int) := by rw [IntKind.wrap_u32']; omega
        have r1 : IntKind.u32.wrap (c1 : Int) = (c1 : Int) := by rw [IntKind.wrap_u32']; omega
        have r2 : IntKind.u32.wrap (c2 : Int) = (c2 : Int) := by rw [IntKind.wrap_u32']; omega
        have r3 : IntKind.u32.wrap (c3 : Int) = (c3 : Int) := by rw [IntKind.wrap_u32']; omega
        have t0 : IntKind.u32.wrap ((c0 : Int) * 16777216) = ((wshl c0 24 : Nat) : Int) := by rw [IntKind.wrap_u32', ← v_shl c0 24]; omega
        have t1 : IntKind.u32.wrap ((c1 : Int) * 65536) = ((wshl c1 16 : Nat) : Int) := by rw [IntKind.wrap_u32', ← v_shl c1 16]; omega
        have t2 : IntKind.u32.wrap ((c2 : Int) * 256) = ((wshl c2 8 : Nat) : Int) := by rw [IntKind.wrap_u32', ← v_shl c2 8]; omega
        have hO : ∀ x y : Nat, bits .or .u32 (x : Int) (y : Int) = ((wor x y : Nat) : Int) := w_or
        have HV := Lib.hid (show wordAt bl (4 * i) = wor (wor (wor (wshl c0 24) (wshl c1 16)) (wshl c2 8)) c3 by
          unfold wordAt; rw [hv0, hv1, hv2, hv3, hq0, hq1, hq2, hq3]; rfl)
        clear hcell hv0 hv1 hv2 hv3 hq0 hq1 hq2 hq3
        have hcs : wr.cell? ⟨w.heap.size + 1, i, none⟩ = some (.int .u32 0) := by rw [HB.out.cell, HPN.out.1]; rfl
        have hfr : wr.frozen? ⟨w.heap.size + 1, i, none⟩ = false := HB.out.frozen i
        go_wp2_with fail
        go_still_tail 35, (by kernel_rfl)
        go_wp2_with fail
        go_roundw
        case rel =>
          refine ⟨i + 1, by omega, by go_num, Lib.hid ?_, Lib.hid ?_, Lib.hid ?_⟩
          · rw [← HPN.out.2, HV.out]
            exact (HB.out.set i _).drew
          · exact (HB0.out.far (p := ⟨w.heap.size + 1, i, none⟩) (by simp) _).drew
          · exact (HBB.out.setCell (p := ⟨w.heap.size + 1, i, none⟩) (by simp) _).drew
        case measure => simp [intOf]; omega
      · have hi1 : 16 ≤ i := by omega
        have hCs : (wcells (pre (LS.take i) 64)).size = 64 := by rw [wcells_size, pre_len _ _ (by rw [List.length_take]; omega)]
        have HPN := Lib.hid (pre_next LS 64 i _ HSL.out hi rfl)
        have HV := Lib.hid (HAT.out i hi1 hi)
        obtain ⟨S, hS⟩ : ∃ S : World → Prop, S = Fill wr (w.heap.size + 1) 95 (wcells (pre (LS.take i) 64)) i := ⟨_, rfl⟩
        have HSW := Lib.hid (show ∀ u u', S u → Below u.heap.size u u' → S u' by rw [hS]; exact fun u u' h hb => h.below hb)
        have HSX := Lib.hid (show ∀ u v, S u → S (u.setCell ⟨w.heap.size + 1, i, none⟩ v) ∧ Bk (u.setCell ⟨w.heap.size + 1, i, none⟩ v) (w.heap.size + 1) 95 ((wcells (pre (LS.take i) 64)).setIfInBounds i v) ∧ Below (w.heap.size + 1) wr (u.setCell ⟨w.heap.size + 1, i, none⟩ v) by rw [hS]; exact fun u v h => h.set v)
        have HSF := Lib.hid (show ∀ u, S u → (∃ v, u.cell? ⟨w.heap.size + 1, i, none⟩ = some v) ∧ u.frozen? ⟨w.heap.size + 1, i, none⟩ = false by rw [hS]; exact fun u h => ⟨h.here (by rw [hCs]; exact hi), h.frozen i⟩)
        have HS0 := Lib.hid (show S wr.drew by rw [hS]; exact Fill.first HB.out (by rw [hCs]; exact hi))
        have HCL := Lib.hid (show ∀ j, j < i → ∀ u, S u → u.cell? ⟨w.heap.size + 1, j, none⟩ = some (.int .u32 ((LS.getD j 0 : Nat) : Int)) by
          rw [hS]
          intro j hj u h
          have hlt : (LS.take i).length = i := by rw [List.length_take, HSL.out]; omega
          rw [h.cell j (by omega), wcells_at _ _ (by rw [pre_len _ _ (by omega)]; omega), pre_at _ _ _ (by omega)]
          rw [List.getD, List.getElem?_take_of_lt hj, ← List.getD])
        clear hS hCs
        obtain ⟨i2, hi2'⟩ : ∃ k, k + 2 = i := ⟨i - 2, by omega⟩
        obtain ⟨i7, hi7⟩ : ∃ k, k + 7 = i := ⟨i - 7, by omega⟩
        obtain ⟨i15, hi15⟩ : ∃ k, k + 15 = i := ⟨i - 15, by omega⟩
        obtain ⟨iz, hiz⟩ : ∃ k, k + 16 = i := ⟨i - 16, by omega⟩
        have HC2 := Lib.hid (HCL.out i2 (by omega)); have HC7 := Lib.hid (HCL.out i7 (by omega)); have HC15 := Lib.hid (HCL.out i15 (by omega)); have HC16 := Lib.hid (HCL.out iz (by omega))
        rw [show i - 2 = i2 by omega, show i - 7 = i7 by omega, show i - 15 = i15 by omega, show i - 16 = iz by omega] at HV
        have HL2 := Lib.hid (HLT.out i2); have HL15 := Lib.hid (HLT.out i15)
        obtain ⟨x2, hx2⟩ : ∃ x, x = LS.getD i2 0 := ⟨_, rfl⟩
        obtain ⟨x7, hx7⟩ : ∃ x, x = LS.getD i7 0 := ⟨_, rfl⟩
        obtain ⟨x15, hx15⟩ : ∃ x, x = LS.getD i15 0 := ⟨_, rfl⟩
        obtain ⟨x16, hx16⟩ : ∃ x, x = LS.getD iz 0 := ⟨_, rfl⟩
        rw [← hx2] at HC2 HV HL2; rw [← hx7] at HC7 HV; rw [← hx15] at HC15 HV HL15; rw [← hx16] at HC16 HV
        obtain ⟨a2, a2'⟩ := iwrap ((i : Int) - 2) i2 (by omega) (by omega)
        obtain ⟨a7, a7'⟩ := iwrap ((i : Int) - 7) i7 (by omega) (by omega)
        obtain ⟨a15, a15'⟩ := iwrap ((i : Int) - 15) i15 (by omega) (by omega)
        obtain ⟨a16, a16'⟩ := iwrap ((i : Int) - 16) iz (by omega) (by omega)
        have b2 : (i2 : Int) < 64 := by omega
        have b7 : (i7 : Int) < 64 := by omega
        have b15 : (i15 : Int) < 64 := by omega
        have b16 : (iz : Int) < 64 := by omega
        have bi : (i : Int) < 64 := by omega
        have bj : (16 : Int) ≤ (i : Int) := by omega
        have hADD : ∀ x y : Nat, ((x : Int) + (y : Int)) % 4294967296 = ((wadd x y : Nat) : Int) := v_add
        have hADD2 : ∀ x y : Nat, IntKind.u32.wrap ((x : Int) + (y : Int)) = ((wadd x y : Nat) : Int) := w_add
        clear hx2 hx7 hx15 hx16 hi2' hi7 hi15 hiz
        go_wp2_with fail
        try simp only [List.cons_append, List.nil_append]
        refine wp_region_held_drew (S := S) (by kernel_rfl) (HS0.out) (fun hHeld => ?_)
        refine take_at (some 46) (i := 0) (v := ?_) rfl rfl (by kernel_rfl) (by kernel_rfl) (by kernel_rfl) (fun _ _ _ h => h) (Or.inl ⟨by kernel_rfl, ?_⟩) hHeld ?_
        rotate_left
        · intro wz hSw; go_simp; try (with_reducible rfl)
        try simp only [Act.put, List.setIfInBounds_toArray, List.set_cons_zero, List.set_cons_succ, List.getElem_toArray, List.getElem_cons_succ, List.getElem_cons_zero]
        refine take_at (some 47) (i := 1) (v := ?_) rfl rfl (by kernel_rfl) (by kernel_rfl) (by kernel_rfl) (fun _ _ _ h => h) (Or.inl ⟨by kernel_rfl, ?_⟩) hHeld ?_
        rotate_left
        · intro wz hSw; go_simp; try (with_reducible rfl)
        try simp only [Act.put, List.setIfInBounds_toArray, List.set_cons_zero, List.set_cons_succ, List.getElem_toArray, List.getElem_cons_succ, List.getElem_cons_zero]
        refine take_at (some 48) (i := 2) (v := ?_) rfl rfl (by kernel_rfl) (by kernel_rfl) (by kernel_rfl) (fun _ _ _ h => h) (Or.inl ⟨by kernel_rfl, ?_⟩) hHeld ?_
        rotate_left
        · intro wz hSw; go_simp; try (with_reducible rfl)
        try simp only [Act.put, List.setIfInBounds_toArray, List.set_cons_zero, List.set_cons_succ, List.getElem_toArray, List.getElem_cons_succ, List.getElem_cons_zero]
        refine take_at (some 49) (i := 3) (v := ?_) rfl rfl (by kernel_rfl) (by kernel_rfl) (by kernel_rfl) (fun _ _ _ h => h) (Or.inl ⟨by kernel_rfl, ?_⟩) hHeld ?_
        rotate_left
        · intro wz hSw; go_simp; try (with_reducible rfl)
        try simp only [Act.put, List.setIfInBounds_toArray, List.set_cons_zero, List.set_cons_succ, List.getElem_toArray, List.getElem_cons_succ, List.getElem_cons_zero]
        refine take_at (some 50) (i := 4) (v := ?_) rfl rfl (by kernel_rfl) (by kernel_rfl) (by kernel_rfl) (fun _ _ _ h => h) (Or.inl ⟨by kernel_rfl, ?_⟩) hHeld ?_
        rotate_left
        · intro wz hSw; have hcv := HC2.out wz hSw; go_simp; try (with_reducible rfl)
        try simp only [Act.put, List.setIfInBounds_toArray, List.set_cons_zero, List.set_cons_succ, List.getElem_toArray, List.getElem_cons_succ, List.getElem_cons_zero]
        refine take_at (some 52) (i := 6) (v := ?_) rfl rfl (by kernel_rfl) (by kernel_rfl) (by kernel_rfl) (fun _ _ _ h => h) (Or.inl ⟨by kernel_rfl, ?_⟩) hHeld ?_
        rotate_left
        · intro wz hSw; go_simp; try (with_reducible rfl)
        try simp only [Act.put, List.setIfInBounds_toArray, List.set_cons_zero, List.set_cons_succ, List.getElem_toArray, List.getElem_cons_succ, List.getElem_cons_zero]
        refine take_at (some 53) (i := 7) (v := ?_) rfl rfl (by kernel_rfl) (by kernel_rfl) (by kernel_rfl) (fun _ _ _ h => h) (Or.inl ⟨by kernel_rfl, ?_⟩) hHeld ?_
        rotate_left
        · intro wz hSw; go_simp; try (with_reducible rfl)
        try simp only [Act.put, List.setIfInBounds_toArray, List.set_cons_zero, List.set_cons_succ, List.getElem_toArray, List.getElem_cons_succ, List.getElem_cons_zero]
        refine take_at (some 54) (i := 8) (v := ?_) rfl rfl (by kernel_rfl) (by kernel_rfl) (by kernel_rfl) (fun _ _ _ h => h) (Or.inl ⟨by kernel_rfl, ?_⟩) hHeld ?_
        rotate_left
        · intro wz hSw; go_simp; try (with_reducible rfl)
        try simp only [Act.put, List.setIfInBounds_toArray, List.set_cons_zero, List.set_cons_succ, List.getElem_toArray, List.getElem_cons_succ, List.getElem_cons_zero]
        refine take_at (some 55) (i := 9) (v := ?_) rfl rfl (by kernel_rfl) (by kernel_rfl) (by kernel_rfl) (fun _ _ _ h => h) (Or.inl ⟨by kernel_rfl, ?_⟩) hHeld ?_
        rotate_left
        · intro wz hSw; have hcv := HC7.out wz hSw; go_simp; try (with_reducible rfl)
        try simp only [Act.put, List.setIfInBounds_toArray, List.set_cons_zero, List.set_cons_succ, List.getElem_toArray, List.getElem_cons_succ, List.getElem_cons_zero]
        refine take_at (some 57) (i := 11) (v := ?_) rfl rfl (by kernel_rfl) (by kernel_rfl) (by kernel_rfl) (fun _ _ _ h => h) (Or.inl ⟨by kernel_rfl, ?_⟩) hHeld ?_
        rotate_left
        · intro wz hSw; go_simp; try (with_reducible rfl)
        try simp only [Act.put, List.setIfInBounds_toArray, List.set_cons_zero, List.set_cons_succ, List.getElem_toArray, List.getElem_cons_succ, List.getElem_cons_zero]
        refine take_at (some 58) (i := 12) (v := ?_) rfl rfl (by kernel_rfl) (by kernel_rfl) (by kernel_rfl) (fun _ _ _ h => h) (Or.inl ⟨by kernel_rfl, ?_⟩) hHeld ?_
        rotate_left
        · intro wz hSw; go_simp; try (with_reducible rfl)
        try simp only [Act.put, List.setIfInBounds_toArray, List.set_cons_zero, List.set_cons_succ, List.getElem_toArray, List.getElem_cons_succ, List.getElem_cons_zero]
        refine take_at (some 59) (i := 13) (v := ?_) rfl rfl (by kernel_rfl) (by kernel_rfl) (by kernel_rfl) (fun _ _ _ h => h) (Or.inl ⟨by kernel_rfl, ?_⟩) hHeld ?_
        rotate_left
        · intro wz hSw; go_simp; try (with_reducible rfl)
        try simp only [Act.put, List.setIfInBounds_toArray, List.set_cons_zero, List.set_cons_succ, List.getElem_toArray, List.getElem_cons_succ, List.getElem_cons_zero]
        refine take_at (some 60) (i := 14) (v := ?_) rfl rfl (by kernel_rfl) (by kernel_rfl) (by kernel_rfl) (fun _ _ _ h => h) (Or.inl ⟨by kernel_rfl, ?_⟩) hHeld ?_
        rotate_left
        · intro wz hSw; have hcv := HC15.out wz hSw; go_simp; try (with_reducible rfl)
        try simp only [Act.put, List.setIfInBounds_toArray, List.set_cons_zero, List.set_cons_succ, List.getElem_toArray, List.getElem_cons_succ, List.getElem_cons_zero]
        refine take_at (some 63) (i := 17) (v := ?_) rfl rfl (by kernel_rfl) (by kernel_rfl) (by kernel_rfl) (fun _ _ _ h => h) (Or.inl ⟨by kernel_rfl, ?_⟩) hHeld ?_
        rotate_left
        · intro wz hSw; go_simp; try (with_reducible rfl)
        try simp only [Act.put, List.setIfInBounds_toArray, List.set_cons_zero, List.set_cons_succ, List.getElem_toArray, List.getElem_cons_succ, List.getElem_cons_zero]
        refine take_at (some 64) (i := 18) (v := ?_) rfl rfl (by kernel_rfl) (by kernel_rfl) (by kernel_rfl) (fun _ _ _ h => h) (Or.inl ⟨by kernel_rfl, ?_⟩) hHeld ?_
        rotate_left
        · intro wz hSw; go_simp; try (with_reducible rfl)
        try simp only [Act.put, List.setIfInBounds_toArray, List.set_cons_zero, List.set_cons_succ, List.getElem_toArray, List.getElem_cons_succ, List.getElem_cons_zero]
        refine take_at (some 65) (i := 19) (v := ?_) rfl rfl (by kernel_rfl) (by kernel_rfl) (by kernel_rfl) (fun _ _ _ h => h) (Or.inl ⟨by kernel_rfl, ?_⟩) hHeld ?_
        rotate_left
        · intro wz hSw; go_simp; try (with_reducible rfl)
        try simp only [Act.put, List.setIfInBounds_toArray, List.set_cons_zero, List.set_cons_succ, List.getElem_toArray, List.getElem_cons_succ, List.getElem_cons_zero]
        refine take_at (some 66) (i := 20) (v := ?_) rfl rfl (by kernel_rfl) (by kernel_rfl) (by kernel_rfl) (fun _ _ _ h => h) (Or.inl ⟨by kernel_rfl, ?_⟩) hHeld ?_
        rotate_left
        · intro wz hSw; have hcv := HC16.out wz hSw; go_simp; try (with_reducible rfl)
        try simp only [Act.put, List.setIfInBounds_toArray, List.set_cons_zero, List.set_cons_succ, List.getElem_toArray, List.getElem_cons_succ, List.getElem_cons_zero]
        refine wpAnyH_ready (rs := [5]) (by kernel_rfl) (by simp) (AllReadyH.cons rfl (fun K hK => ?_) AllReadyH.nil)
        rw [if_pos (by kernel_rfl)]
        go_simp
        refine (rsmall_a x2 _ HL2.out).mono ?_
        rintro e w3 ⟨rfl, hb3⟩
        try dsimp only
        refine hK.out _ _ (HSW.out _ _ hHeld hb3) (fun hHeld => ?_)
        try simp only [Act.put, List.setIfInBounds_toArray, List.set_cons_zero, List.set_cons_succ, List.getElem_toArray, List.getElem_cons_succ, List.getElem_cons_zero]
        refine take_at (some 56) (i := 10) (v := ?_) rfl rfl (by kernel_rfl) (by kernel_rfl) (by kernel_rfl) (fun _ _ _ h => h) (Or.inl ⟨by kernel_rfl, ?_⟩) hHeld ?_
        rotate_left
        · intro wz hSw; go_simp; try (with_reducible rfl)
        try simp only [Act.put, List.setIfInBounds_toArray, List.set_cons_zero, List.set_cons_succ, List.getElem_toArray, List.getElem_cons_succ, List.getElem_cons_zero]
        refine wpAnyH_ready (rs := [15]) (by kernel_rfl) (by simp) (AllReadyH.cons rfl (fun K hK => ?_) AllReadyH.nil)
        rw [if_pos (by kernel_rfl)]
        go_simp
        refine (rsmall_b x15 _ HL15.out).mono ?_
        rintro e w4 ⟨rfl, hb4⟩
        try dsimp only
        refine hK.out _ _ (HSW.out _ _ hHeld hb4) (fun hHeld => ?_)
        try simp only [Act.put, List.setIfInBounds_toArray, List.set_cons_zero, List.set_cons_succ, List.getElem_toArray, List.getElem_cons_succ, List.getElem_cons_zero]
        refine take_at (some 62) (i := 16) (v := ?_) rfl rfl (by kernel_rfl) (by kernel_rfl) (by kernel_rfl) (fun _ _ _ h => h) (Or.inl ⟨by kernel_rfl, ?_⟩) hHeld ?_
        rotate_left
        · intro wz hSw; go_simp; try (with_reducible rfl)
        try simp only [Act.put, List.setIfInBounds_toArray, List.set_cons_zero, List.set_cons_succ, List.getElem_toArray, List.getElem_cons_succ, List.getElem_cons_zero]
        refine take_at (some 67) (i := 21) (v := ?_) rfl rfl (by kernel_rfl) (by kernel_rfl) (by kernel_rfl) (fun _ _ _ h => h) (Or.inl ⟨by kernel_rfl, ?_⟩) hHeld ?_
        rotate_left
        · intro wz hSw; go_simp; try (with_reducible rfl)
        try simp only [Act.put, List.setIfInBounds_toArray, List.set_cons_zero, List.set_cons_succ, List.getElem_toArray, List.getElem_cons_succ, List.getElem_cons_zero]
        refine take_at (some 68) (i := 22) (v := ?_) rfl rfl (by kernel_rfl) (by kernel_rfl) (by kernel_rfl) (fun _ _ _ h => h) (Or.inl ⟨by kernel_rfl, ?_⟩) hHeld ?_
        rotate_left
        · intro wz hSw; go_simp; try (with_reducible rfl)
        try simp only [Act.put, List.setIfInBounds_toArray, List.set_cons_zero, List.set_cons_succ, List.getElem_toArray, List.getElem_cons_succ, List.getElem_cons_zero]
        refine wpAnyH_ready (rs := [23]) (by kernel_rfl) (by simp) (AllReadyH.cons rfl (fun K hK => ?_) AllReadyH.nil)
        rw [if_pos (by kernel_rfl)]
        obtain ⟨⟨v5, hc5⟩, hf5⟩ := HSF.out _ hHeld
        go_simp
        obtain ⟨hs6, hk6, hb6⟩ := HSX.out _ (wd (wadd (wadd (wadd (small x2 17 19 10) x7) (small x15 7 18 3)) x16)) hHeld
        refine hK.out _ _ hs6 (fun hHeld => ?_)
        try simp only [Act.put, List.setIfInBounds_toArray, List.set_cons_zero, List.set_cons_succ, List.getElem_toArray, List.getElem_cons_succ, List.getElem_cons_zero]
        refine wpAnyH_done (by kernel_rfl) ?_ _
        go_wp2_with fail
        go_roundw
        case rel =>
          refine ⟨i + 1, by omega, by go_num, Lib.hid ?_, Lib.hid ?_, Lib.hid ?_⟩
          · rw [← HPN.out.2, HV.out]; exact hk6
          · exact (hb6.block w.heap.size (by omega)).trans HB0.out
          · exact HBB.out.trans (hb6.mono (by omega))
        case measure => simp [intOf]; omega
    · have hi3 : i = 64 := by omega
      subst hi3
      rw [List.take_of_length_le (by rw [HSL.out]; omega), pre_full _ _ HSL.out] at HB
      have e1 : (Tryd.prog.info? 95).map (·.size) = some (wcells LS).size := by rw [wcells_size, HSL.out]; kernel_rfl
      have e2 : (wcells (pre [] 64)).size = (wcells LS).size := by rw [wcells_size, wcells_size, HSL.out]; rfl
      have HE := Lib.hid (And.intro e1 e2)
      clear e1 e2
      go_wp2_with (first
        | refine wpList_load_row rfl 95 (.tmp 3) rfl (w.heap.size + 1) rfl 95 _ (0, 0) _ HB.out Tryd.underlying95 rfl HE.out.1 ?_
        | refine wpList_store_row rfl 95 (.tmp 2) (.tmp 69) rfl w.heap.size _ rfl rfl 95 _ HB0.out HE.out.1 HE.out.2 (wcells_one _) ?_)
      obtain ⟨w3, hw3⟩ : ∃ w3, w3 = wr.setRow w.heap.size (wcells LS) := ⟨_, rfl⟩
      have HB3 : Bk w3 w.heap.size 95 (wcells LS) := by rw [hw3]; exact HB0.out.setRow _
      have hbel3 : Below w.heap.size w w3 := by rw [hw3]; exact Below.setRow HBB.out _ (Nat.le_refl _) _
      rw [← hw3]
      refine bodyPost_ret (results_cell_row rfl _ _ w.heap.size 95 _ (0, 0) _ rfl HB3 Tryd.underlying95 rfl HE.out.1) rfl ?_
      exact ⟨rfl, hbel3⟩
end Go.Proofs.YtinbegnojfpeiaaDoor
