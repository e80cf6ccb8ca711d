/- PairPlays: calls answer as the document says: the walk. (Written by gen_prplays.py.) -/
import Derived.Test.YtinjldjpncijjaaG8
namespace Go.Proofs.Ytinjldjpncijjaa
set_option linter.unusedVariables false
set_option maxRecDepth 100000
set_option linter.unusedSimpArgs false
open Go.RowKit

set_option maxRecDepth 100000 in
set_option maxHeartbeats 16000000 in
theorem walk_PairPlays (A : Option Addr) (L : List CoM) (n c : Nat) (W : World) (h : InC W A L n c) :
    Calls Try.prog 3 #[.slice A n c] W fun e w' => e = .returned (.bool true) ∧ Below W.heap.size W w' := by
  have HI := Lib.hid h
  have hcapn : n ≤ 9223372036854775807 := by have h1 := h.cap; have h2 := h.max; unfold maxLen at h2; omega
  clear h
  go_enter Try.func3, Try.ntmps3
  go_upto_region 2 with (go_at_call 9; (with_reducible refine (phead_ok _).mono ?_); rintro e u1 ⟨rfl, hb⟩; have HB1 := Lib.hid hb; clear hb)
  go_upto_region 3 with (go_at_call 10; (with_reducible refine (z_pnew HB1.out).mono ?_); rintro e u2 ⟨H2, tb, rfl, h1, h2, h3⟩; have HZ2 := Lib.hid h1; clear h1 h2 h3)
  go_upto_region 4 with (go_at_call 11; (with_reducible refine (pr_new HZ2.out.l).mono ?_); rintro e u3 ⟨H3, rb, rfl, h1, h2, h3⟩; have HW3 := Lib.hid (show Wp W u3 H2 tb ⟨[], []⟩ H3 rb ⟨[], []⟩ from ⟨HZ2.out.on h2, h1, fun y hy hH => absurd (HZ2.out.hi y hy) (Nat.not_lt.2 (h3 y hH))⟩); clear h1 h2 h3)
  by_cases hgt : n > 300
  · have hg2 : (n : Int) > 300 := by omega
    have hg3 : decide ((300 : Int) < (n : Int)) = true := decide_eq_true (by omega)
    go_wp2
    go_ret
    exact ⟨rfl, HW3.out.z.l⟩
  · have hg2 : ¬ (n : Int) > 300 := by omega
    have hg3 : decide ((300 : Int) < (n : Int)) = false := decide_eq_false (by omega)
    go_wp2_with fail
    go_loopw [6] (fun v6 wr => ∃ (i : Nat) (t : Tp) (G H : List Nat), i ≤ n ∧ v6 = .int .i64 (i : Int) ∧ Hid (Wp W wr G tb t H rb t) ∧ Hid (t.l.length ≤ i ∧ t.ev.length ≤ 2 * i ∧ Gp t)) (fun v6 _ => n - (intOf v6).toNat)
    case atStart => exact ⟨0, ⟨[], []⟩, H2, H3, by omega, rfl, HW3, Lib.hid ⟨by simp, by simp, gp_nil⟩⟩
    case round =>
      obtain ⟨i, t, G, H, hi, rfl, HW, HE⟩ := hrel
      by_cases hi1 : i < n
      · have hi2 : (i : Int) < (n : Int) := by omega
        have HFW := Lib.hid (show t.l.length ≤ 1000 ∧ t.ev.length ≤ 2000 from ⟨by have := HE.out.1; omega, by have := HE.out.2.1; omega⟩)
        have HFD := Lib.hid (show t.l.length ≤ 1000000 ∧ t.ev.length ≤ 1000000 from ⟨by have := HE.out.1; omega, by have := HE.out.2.1; omega⟩)
        obtain ⟨bx, o, op, rfl, hx, hwf, hc⟩ := HI.out.at_ i hi1
        obtain ⟨x0, x1, x2⟩ := hc wr HW.out.z.l
        obtain ⟨ow, oa, ob⟩ := op
        dsimp only at x0 x1 x2
        have HWA := Lib.hid (show WfN oa from hwf.2.1)
        have HWB := Lib.hid (show WfN ob from hwf.2.2)
        clear hx hc hwf
        go_upto_region 10 with fail
        obtain ⟨kb, hkb⟩ : ∃ kb, wr.heap.size = kb := ⟨_, rfl⟩
        obtain ⟨v, hv⟩ : ∃ v, wr.alloc (.cells #[.int .i64 ow, .int .i64 oa, .int .i64 ob] 29) = v := ⟨_, rfl⟩
        have hbv : Below wr.heap.size wr v := by rw [← hv]; exact (Below.refl _ _).alloc (Nat.le_refl _) _
        have HB := Lib.hid (show Bz v (G ++ H) kb 29 #[.int .i64 ow, .int .i64 oa, .int .i64 ob] by rw [← hv, ← hkb]; exact Bz.new HW.out.hi _ _)
        have HWv := Lib.hid (HW.out.on hbv)
        try rw [hv]
        try rw [hkb]
        clear hv hkb hbv x0 x1 x2
        have e0 : v.cell? ⟨kb, 0, none⟩ = some (.int .i64 ow) := HB.out.b.cell 0
        have e1 : v.cell? ⟨kb, 1, none⟩ = some (.int .i64 oa) := HB.out.b.cell 1
        have e2 : v.cell? ⟨kb, 2, none⟩ = some (.int .i64 ob) := HB.out.b.cell 2
        by_cases h2 : ow = 2
        · subst h2
          obtain ⟨⟨⟨x, b⟩, t2⟩, hR⟩ : ∃ R, partP t oa = R := ⟨_, rfl⟩
          have HR := Lib.hid hR
          have m1 : (x != x) = false := by simp
          have m2 : (b != b) = false := by simp
          have HE2 := Lib.hid (show t2.l.length ≤ i + 1 ∧ t2.ev.length ≤ 2 * (i + 1) ∧ Gp t2 from ⟨by have h1 := part_few t oa; rw [hR] at h1; have := HE.out.1; exact Nat.le_trans h1 (by omega), by have h1 : t2.ev = t.ev := (congrArg (fun r => r.2.ev) hR).symm; rw [h1]; have := HE.out.2.1; omega, gp_out HE.out.2.2 hR⟩)
          clear hR
          go_upto_region 12 with (go_at_call 12; (with_reducible refine (z_part HWv.out.z HE.out.2.2 HFW.out oa x b t2 HR.out).mono ?_); rintro e u4 ⟨G4, rfl, h1, h2⟩; have HW4 := Lib.hid (HWv.out.left h2 h1); have HB4 := Lib.hid (HB.out.step (h2.left H)); clear h1 h2)
          clear e0 e1 e2
          have e0 : u4.cell? ⟨kb, 0, none⟩ = some (.int .i64 2) := HB4.out.b.cell 0
          have e1 : u4.cell? ⟨kb, 1, none⟩ = some (.int .i64 oa) := HB4.out.b.cell 1
          have e2 : u4.cell? ⟨kb, 2, none⟩ = some (.int .i64 ob) := HB4.out.b.cell 2
          go_upto_region 13 with (go_at_call 13; (with_reducible refine (pr_part HW4.out.d HFD.out.1 oa x b t2 HR.out).mono ?_); rintro e u5 ⟨H5, rfl, h1, h2⟩; have HW5 := Lib.hid (HW4.out.right h2 h1); have HB5 := Lib.hid (HB4.out.step (h2.right G4)); clear h1 h2)
          clear e0 e1 e2
          have e0 : u5.cell? ⟨kb, 0, none⟩ = some (.int .i64 2) := HB5.out.b.cell 0
          have e1 : u5.cell? ⟨kb, 1, none⟩ = some (.int .i64 oa) := HB5.out.b.cell 1
          have e2 : u5.cell? ⟨kb, 2, none⟩ = some (.int .i64 ob) := HB5.out.b.cell 2
          go_upto_region 19 with fail
          clear m1 m2
          obtain ⟨⟨xo, bo⟩, hR3⟩ : ∃ R, othP t2.l ob = R := ⟨_, rfl⟩
          obtain ⟨rw, hR4⟩ : ∃ r, decide (oa ∈ t2.ev) = r := ⟨_, rfl⟩
          have HO := Lib.hid (And.intro hR3 hR4)
          have n1 : (xo != xo) = false := by simp
          have n2 : (bo != bo) = false := by simp
          have n3 : (rw != rw) = false := by simp
          have HF2 := Lib.hid (show t2.l.length ≤ 1000 ∧ t2.ev.length ≤ 2000 from ⟨by have := HE2.out.1; omega, by have := HE2.out.2.1; omega⟩)
          have HD2 := Lib.hid (show t2.l.length ≤ 1000000 ∧ t2.ev.length ≤ 1000000 from ⟨Nat.le_trans HF2.out.1 (by decide), Nat.le_trans HF2.out.2 (by decide)⟩)
          obtain ⟨M, hM⟩ : ∃ M, t2.l.length = M := ⟨_, rfl⟩
          have HM := Lib.hid hM
          clear hR3 hR4 hM
          go_upto_region 20 with (go_at_call 16; (with_reducible refine (z_other HW5.out.z HE2.out.2.2 HF2.out ob xo bo HO.out.1).mono ?_); rintro e u6 ⟨rfl, h1⟩; have HW6 := Lib.hid (HW5.out.on h1); have HB6 := Lib.hid (HB5.out.on h1); clear h1)
          clear e0 e1 e2
          have e0 : u6.cell? ⟨kb, 0, none⟩ = some (.int .i64 2) := HB6.out.b.cell 0
          have e1 : u6.cell? ⟨kb, 1, none⟩ = some (.int .i64 oa) := HB6.out.b.cell 1
          have e2 : u6.cell? ⟨kb, 2, none⟩ = some (.int .i64 ob) := HB6.out.b.cell 2
          go_upto_region 21 with (go_at_call 17; (with_reducible refine (d_other HW6.out.d HD2.out.1 ob xo bo HO.out.1).mono ?_); rintro e u7 ⟨rfl, h1⟩; have HW7 := Lib.hid (HW6.out.on h1); have HB7 := Lib.hid (HB6.out.on h1); clear h1)
          clear e0 e1 e2
          obtain ⟨A9, c9, E9, d9, hbk, ho9, _⟩ := HW7.out.d.ex
          rw [HM.out] at hbk
          have HBK := Lib.hid hbk
          have HRD := Lib.hid (show Rw 2 ppc u7 A9 t2.l from Ow.rw_ (fun _ => rfl) ho9)
          clear hbk ho9
          try simp only [List.cons_append, List.nil_append]
          refine wp_region_held_drew (S := fun wz => Below u7.heap.size u7 wz) (by kernel_rfl) ((Below.refl _ _).drew) (fun hHeld => ?_)
          refine take_at (some 97) (i := 0) (v := ?_) rfl rfl (by kernel_rfl) (by kernel_rfl) (by kernel_rfl) (fun _ _ _ h => h) (Or.inl ⟨by kernel_rfl, ?_⟩) hHeld ?_
          rotate_left
          · intro wz hSw; go_simp; try (with_reducible rfl)
          try simp only [Act.put, List.setIfInBounds_toArray, List.set_cons_zero, List.set_cons_succ, List.getElem_toArray, List.getElem_cons_succ, List.getElem_cons_zero]
          refine take_at (some 98) (i := 1) (v := ?_) rfl rfl (by kernel_rfl) (by kernel_rfl) (by kernel_rfl) (fun _ _ _ h => h) (Or.inl ⟨by kernel_rfl, ?_⟩) hHeld ?_
          rotate_left
          · intro wz hSw; go_simp; try (with_reducible rfl)
          try simp only [Act.put, List.setIfInBounds_toArray, List.set_cons_zero, List.set_cons_succ, List.getElem_toArray, List.getElem_cons_succ, List.getElem_cons_zero]
          refine take_at (some 99) (i := 2) (v := ?_) rfl rfl (by kernel_rfl) (by kernel_rfl) (by kernel_rfl) (fun _ _ _ h => h) (Or.inl ⟨by kernel_rfl, ?_⟩) hHeld ?_
          rotate_left
          · intro wz hSw; go_simp; try (with_reducible rfl)
          try simp only [Act.put, List.setIfInBounds_toArray, List.set_cons_zero, List.set_cons_succ, List.getElem_toArray, List.getElem_cons_succ, List.getElem_cons_zero]
          refine take_at (some 100) (i := 3) (v := ?_) rfl rfl (by kernel_rfl) (by kernel_rfl) (by kernel_rfl) (fun _ _ _ h => h) (Or.inl ⟨by kernel_rfl, ?_⟩) hHeld ?_
          rotate_left
          · intro wz hSw; go_simp; try (with_reducible rfl)
          try simp only [Act.put, List.setIfInBounds_toArray, List.set_cons_zero, List.set_cons_succ, List.getElem_toArray, List.getElem_cons_succ, List.getElem_cons_zero]
          refine take_at (some 101) (i := 4) (v := ?_) rfl rfl (by kernel_rfl) (by kernel_rfl) (by kernel_rfl) (fun _ _ _ h => h) (Or.inl ⟨by kernel_rfl, ?_⟩) hHeld ?_
          rotate_left
          · intro wz hSw; go_simp; try (with_reducible rfl)
          try simp only [Act.put, List.setIfInBounds_toArray, List.set_cons_zero, List.set_cons_succ, List.getElem_toArray, List.getElem_cons_succ, List.getElem_cons_zero]
          refine take_at (some 102) (i := 5) (v := ?_) rfl rfl (by kernel_rfl) (by kernel_rfl) (by kernel_rfl) (fun _ _ _ h => h) (Or.inl ⟨by kernel_rfl, ?_⟩) hHeld ?_
          rotate_left
          · intro wz hSw; go_simp; try (with_reducible rfl)
          try simp only [Act.put, List.setIfInBounds_toArray, List.set_cons_zero, List.set_cons_succ, List.getElem_toArray, List.getElem_cons_succ, List.getElem_cons_zero]
          refine take_at (some 103) (i := 6) (v := ?_) rfl rfl (by kernel_rfl) (by kernel_rfl) (by kernel_rfl) (fun _ _ _ h => h) (Or.inl ⟨by kernel_rfl, ?_⟩) hHeld ?_
          rotate_left
          · intro wz hSw; go_simp; try (with_reducible rfl)
          try simp only [Act.put, List.setIfInBounds_toArray, List.set_cons_zero, List.set_cons_succ, List.getElem_toArray, List.getElem_cons_succ, List.getElem_cons_zero]
          refine take_at (some 104) (i := 7) (v := ?_) rfl rfl (by kernel_rfl) (by kernel_rfl) (by kernel_rfl) (fun _ _ _ h => h) (Or.inl ⟨by kernel_rfl, ?_⟩) hHeld ?_
          rotate_left
          · intro wz hSw; go_simp; try (with_reducible rfl)
          try simp only [Act.put, List.setIfInBounds_toArray, List.set_cons_zero, List.set_cons_succ, List.getElem_toArray, List.getElem_cons_succ, List.getElem_cons_zero]
          refine take_at (some 105) (i := 8) (v := ?_) rfl rfl (by kernel_rfl) (by kernel_rfl) (by kernel_rfl) (fun _ _ _ h => h) (Or.inl ⟨by kernel_rfl, ?_⟩) hHeld ?_
          rotate_left
          · intro wz hSw; go_simp; try (with_reducible rfl)
          try simp only [Act.put, List.setIfInBounds_toArray, List.set_cons_zero, List.set_cons_succ, List.getElem_toArray, List.getElem_cons_succ, List.getElem_cons_zero]
          refine take_at (some 106) (i := 9) (v := ?_) rfl rfl (by kernel_rfl) (by kernel_rfl) (by kernel_rfl) (fun _ _ _ h => h) (Or.inl ⟨by kernel_rfl, ?_⟩) hHeld ?_
          rotate_left
          · intro wz hSw; go_simp; try (with_reducible rfl)
          try simp only [Act.put, List.setIfInBounds_toArray, List.set_cons_zero, List.set_cons_succ, List.getElem_toArray, List.getElem_cons_succ, List.getElem_cons_zero]
          refine take_at (some 107) (i := 10) (v := ?_) rfl rfl (by kernel_rfl) (by kernel_rfl) (by kernel_rfl) (fun _ _ _ h => h) (Or.inl ⟨by kernel_rfl, ?_⟩) hHeld ?_
          rotate_left
          · intro wz hSw; go_simp; try (with_reducible rfl)
          try simp only [Act.put, List.setIfInBounds_toArray, List.set_cons_zero, List.set_cons_succ, List.getElem_toArray, List.getElem_cons_succ, List.getElem_cons_zero]
          refine take_at (some 108) (i := 11) (v := ?_) rfl rfl (by kernel_rfl) (by kernel_rfl) (by kernel_rfl) (fun _ _ _ h => h) (Or.inl ⟨by kernel_rfl, ?_⟩) hHeld ?_
          rotate_left
          · intro wz hSw; have e1 : wz.cell? ⟨kb, 1, none⟩ = some (.int .i64 oa) := (HB7.out.b.below hSw HB7.out.b.lt).cell 1; go_simp; try (with_reducible rfl)
          try simp only [Act.put, List.setIfInBounds_toArray, List.set_cons_zero, List.set_cons_succ, List.getElem_toArray, List.getElem_cons_succ, List.getElem_cons_zero]
          refine take_at (some 110) (i := 13) (v := ?_) rfl rfl (by kernel_rfl) (by kernel_rfl) (by kernel_rfl) (fun _ _ _ h => h) (Or.inl ⟨by kernel_rfl, ?_⟩) hHeld ?_
          rotate_left
          · intro wz hSw; go_simp; try (with_reducible rfl)
          try simp only [Act.put, List.setIfInBounds_toArray, List.set_cons_zero, List.set_cons_succ, List.getElem_toArray, List.getElem_cons_succ, List.getElem_cons_zero]
          refine take_at (some 111) (i := 14) (v := ?_) rfl rfl (by kernel_rfl) (by kernel_rfl) (by kernel_rfl) (fun _ _ _ h => h) (Or.inl ⟨by kernel_rfl, ?_⟩) hHeld ?_
          rotate_left
          · intro wz hSw; go_simp; try (with_reducible rfl)
          try simp only [Act.put, List.setIfInBounds_toArray, List.set_cons_zero, List.set_cons_succ, List.getElem_toArray, List.getElem_cons_succ, List.getElem_cons_zero]
          refine take_at (some 112) (i := 15) (v := ?_) rfl rfl (by kernel_rfl) (by kernel_rfl) (by kernel_rfl) (fun _ _ _ h => h) (Or.inl ⟨by kernel_rfl, ?_⟩) hHeld ?_
          rotate_left
          · intro wz hSw; have e1 : wz.cell? ⟨kb, 1, none⟩ = some (.int .i64 oa) := (HB7.out.b.below hSw HB7.out.b.lt).cell 1; go_simp; try (with_reducible rfl)
          try simp only [Act.put, List.setIfInBounds_toArray, List.set_cons_zero, List.set_cons_succ, List.getElem_toArray, List.getElem_cons_succ, List.getElem_cons_zero]
          refine wpAnyH_ready (rs := [12]) (by kernel_rfl) (by simp) (AllReadyH.cons rfl (fun K hK => ?_) AllReadyH.nil)
          rw [if_pos (by kernel_rfl)]
          go_simp
          refine (z_was (HW7.out.z.on ((Below.refl u7.heap.size u7).drew)) HE2.out.2.2 HF2.out oa rw HO.out.2).mono ?_
          rintro e y1 ⟨rfl, hb1⟩
          try dsimp only
          refine hK.out _ _ (((Below.refl u7.heap.size u7).drew).trans (hb1.mono ((Below.refl u7.heap.size u7).drew).size)) (fun hHeld => ?_)
          try simp only [Act.put, List.setIfInBounds_toArray, List.set_cons_zero, List.set_cons_succ, List.getElem_toArray, List.getElem_cons_succ, List.getElem_cons_zero]
          refine wpAnyH_ready (rs := [16]) (by kernel_rfl) (by simp) (AllReadyH.cons rfl (fun K hK => ?_) AllReadyH.nil)
          rw [if_pos (by kernel_rfl)]
          go_simp
          refine (d_was (HW7.out.d.on (((Below.refl u7.heap.size u7).drew).trans (hb1.mono ((Below.refl u7.heap.size u7).drew).size))) HD2.out.2 oa rw HO.out.2).mono ?_
          rintro e y2 ⟨rfl, hb2⟩
          try dsimp only
          refine hK.out _ _ ((((Below.refl u7.heap.size u7).drew).trans (hb1.mono ((Below.refl u7.heap.size u7).drew).size)).trans (hb2.mono (((Below.refl u7.heap.size u7).drew).trans (hb1.mono ((Below.refl u7.heap.size u7).drew).size)).size)) (fun hHeld => ?_)
          try simp only [Act.put, List.setIfInBounds_toArray, List.set_cons_zero, List.set_cons_succ, List.getElem_toArray, List.getElem_cons_succ, List.getElem_cons_zero]
          refine take_at (some 114) (i := 17) (v := ?_) rfl rfl (by kernel_rfl) (by kernel_rfl) (by kernel_rfl) (fun _ _ _ h => h) (Or.inl ⟨by kernel_rfl, ?_⟩) hHeld ?_
          rotate_left
          · intro wz hSw; go_simp; try (with_reducible rfl)
          try simp only [Act.put, List.setIfInBounds_toArray, List.set_cons_zero, List.set_cons_succ, List.getElem_toArray, List.getElem_cons_succ, List.getElem_cons_zero]
          refine take_at (some 115) (i := 18) (v := ?_) rfl rfl (by kernel_rfl) (by kernel_rfl) (by kernel_rfl) (fun _ _ _ h => h) (Or.inl ⟨by kernel_rfl, ?_⟩) hHeld ?_
          rotate_left
          · intro wz hSw; go_simp; try (with_reducible rfl)
          try simp only [Act.put, List.setIfInBounds_toArray, List.set_cons_zero, List.set_cons_succ, List.getElem_toArray, List.getElem_cons_succ, List.getElem_cons_zero]
          refine take_at (some 116) (i := 19) (v := ?_) rfl rfl (by kernel_rfl) (by kernel_rfl) (by kernel_rfl) (fun _ _ _ h => h) (Or.inl ⟨by kernel_rfl, ?_⟩) hHeld ?_
          rotate_left
          · intro wz hSw; go_simp; try (with_reducible rfl)
          try simp only [Act.put, List.setIfInBounds_toArray, List.set_cons_zero, List.set_cons_succ, List.getElem_toArray, List.getElem_cons_succ, List.getElem_cons_zero]
          refine take_at (some 117) (i := 20) (v := ?_) rfl rfl (by kernel_rfl) (by kernel_rfl) (by kernel_rfl) (fun _ _ _ h => h) (Or.inl ⟨by kernel_rfl, ?_⟩) hHeld ?_
          rotate_left
          · intro wz hSw; go_simp; try (with_reducible rfl)
          try simp only [Act.put, List.setIfInBounds_toArray, List.set_cons_zero, List.set_cons_succ, List.getElem_toArray, List.getElem_cons_succ, List.getElem_cons_zero]
          refine take_at (some 119) (i := 22) (v := ?_) rfl rfl (by kernel_rfl) (by kernel_rfl) (by kernel_rfl) (fun _ _ _ h => h) (Or.inl ⟨by kernel_rfl, ?_⟩) hHeld ?_
          rotate_left
          · intro wz hSw; go_simp; try (with_reducible rfl)
          try simp only [Act.put, List.setIfInBounds_toArray, List.set_cons_zero, List.set_cons_succ, List.getElem_toArray, List.getElem_cons_succ, List.getElem_cons_zero]
          refine take_at (some 120) (i := 23) (v := ?_) rfl rfl (by kernel_rfl) (by kernel_rfl) (by kernel_rfl) (fun _ _ _ h => h) (Or.inl ⟨by kernel_rfl, ?_⟩) hHeld ?_
          rotate_left
          · intro wz hSw; go_simp; try (with_reducible rfl)
          try simp only [Act.put, List.setIfInBounds_toArray, List.set_cons_zero, List.set_cons_succ, List.getElem_toArray, List.getElem_cons_succ, List.getElem_cons_zero]
          refine take_at (some 121) (i := 24) (v := ?_) rfl rfl (by kernel_rfl) (by kernel_rfl) (by kernel_rfl) (fun _ _ _ h => h) (Or.inl ⟨by kernel_rfl, ?_⟩) hHeld ?_
          rotate_left
          · intro wz hSw; go_simp; try (with_reducible rfl)
          try simp only [Act.put, List.setIfInBounds_toArray, List.set_cons_zero, List.set_cons_succ, List.getElem_toArray, List.getElem_cons_succ, List.getElem_cons_zero]
          refine take_at (some 122) (i := 25) (v := ?_) rfl rfl (by kernel_rfl) (by kernel_rfl) (by kernel_rfl) (fun _ _ _ h => h) (Or.inl ⟨by kernel_rfl, ?_⟩) hHeld ?_
          rotate_left
          · intro wz hSw; have d0 : wz.cell? ⟨rb, 0, none⟩ = some (.slice A9 M c9) := (HBK.out.below hSw HBK.out.lt).cell 0; go_simp; try (with_reducible rfl)
          try simp only [Act.put, List.setIfInBounds_toArray, List.set_cons_zero, List.set_cons_succ, List.getElem_toArray, List.getElem_cons_succ, List.getElem_cons_zero]
          refine wpAnyH_ready (rs := [21]) (by kernel_rfl) (by simp) (AllReadyH.cons rfl (fun K hK => ?_) AllReadyH.nil)
          rw [if_pos (by kernel_rfl)]
          go_simp
          refine (z_all (HW7.out.z.on ((((Below.refl u7.heap.size u7).drew).trans (hb1.mono ((Below.refl u7.heap.size u7).drew).size)).trans (hb2.mono (((Below.refl u7.heap.size u7).drew).trans (hb1.mono ((Below.refl u7.heap.size u7).drew).size)).size))) HE2.out.2.2 HF2.out M HM.out).mono ?_
          rintro e y3 ⟨A8, c8, rfl, ho3, hb3⟩
          try dsimp only
          refine hK.out _ _ (((((Below.refl u7.heap.size u7).drew).trans (hb1.mono ((Below.refl u7.heap.size u7).drew).size)).trans (hb2.mono (((Below.refl u7.heap.size u7).drew).trans (hb1.mono ((Below.refl u7.heap.size u7).drew).size)).size)).trans (hb3.mono ((((Below.refl u7.heap.size u7).drew).trans (hb1.mono ((Below.refl u7.heap.size u7).drew).size)).trans (hb2.mono (((Below.refl u7.heap.size u7).drew).trans (hb1.mono ((Below.refl u7.heap.size u7).drew).size)).size)).size)) (fun hHeld => ?_)
          try simp only [Act.put, List.setIfInBounds_toArray, List.set_cons_zero, List.set_cons_succ, List.getElem_toArray, List.getElem_cons_succ, List.getElem_cons_zero]
          refine wpAnyH_ready (rs := [26]) (by kernel_rfl) (by simp) (AllReadyH.cons rfl (fun K hK => ?_) AllReadyH.nil)
          rw [if_pos (by kernel_rfl)]
          go_simp
          refine (pr_same A8 A9 c8 c9 t2.l t2.l y3 M M HM.out HM.out (Ow.rw_ (fun _ => rfl) ho3) (HRD.out.on (((((Below.refl u7.heap.size u7).drew).trans (hb1.mono ((Below.refl u7.heap.size u7).drew).size)).trans (hb2.mono (((Below.refl u7.heap.size u7).drew).trans (hb1.mono ((Below.refl u7.heap.size u7).drew).size)).size)).trans (hb3.mono ((((Below.refl u7.heap.size u7).drew).trans (hb1.mono ((Below.refl u7.heap.size u7).drew).size)).trans (hb2.mono (((Below.refl u7.heap.size u7).drew).trans (hb1.mono ((Below.refl u7.heap.size u7).drew).size)).size)).size))) (by have := HM.out; have := HF2.out.1; omega) (by have := HM.out; have := HF2.out.1; omega) true (decide_eq_true rfl)).mono ?_
          rintro e y4 ⟨rfl, hb4⟩
          try dsimp only
          refine hK.out _ _ ((((((Below.refl u7.heap.size u7).drew).trans (hb1.mono ((Below.refl u7.heap.size u7).drew).size)).trans (hb2.mono (((Below.refl u7.heap.size u7).drew).trans (hb1.mono ((Below.refl u7.heap.size u7).drew).size)).size)).trans (hb3.mono ((((Below.refl u7.heap.size u7).drew).trans (hb1.mono ((Below.refl u7.heap.size u7).drew).size)).trans (hb2.mono (((Below.refl u7.heap.size u7).drew).trans (hb1.mono ((Below.refl u7.heap.size u7).drew).size)).size)).size)).trans (hb4.mono (((((Below.refl u7.heap.size u7).drew).trans (hb1.mono ((Below.refl u7.heap.size u7).drew).size)).trans (hb2.mono (((Below.refl u7.heap.size u7).drew).trans (hb1.mono ((Below.refl u7.heap.size u7).drew).size)).size)).trans (hb3.mono ((((Below.refl u7.heap.size u7).drew).trans (hb1.mono ((Below.refl u7.heap.size u7).drew).size)).trans (hb2.mono (((Below.refl u7.heap.size u7).drew).trans (hb1.mono ((Below.refl u7.heap.size u7).drew).size)).size)).size)).size)) (fun hHeld => ?_)
          try simp only [Act.put, List.setIfInBounds_toArray, List.set_cons_zero, List.set_cons_succ, List.getElem_toArray, List.getElem_cons_succ, List.getElem_cons_zero]
          refine take_at (some 124) (i := 27) (v := ?_) rfl rfl (by kernel_rfl) (by kernel_rfl) (by kernel_rfl) (fun _ _ _ h => h) (Or.inl ⟨by kernel_rfl, ?_⟩) hHeld ?_
          rotate_left
          · intro wz hSw; go_simp; try (with_reducible rfl)
          try simp only [Act.put, List.setIfInBounds_toArray, List.set_cons_zero, List.set_cons_succ, List.getElem_toArray, List.getElem_cons_succ, List.getElem_cons_zero]
          refine take_at (some 125) (i := 28) (v := ?_) rfl rfl (by kernel_rfl) (by kernel_rfl) (by kernel_rfl) (fun _ _ _ h => h) (Or.inl ⟨by kernel_rfl, ?_⟩) hHeld ?_
          rotate_left
          · intro wz hSw; go_simp; try (with_reducible rfl)
          try simp only [Act.put, List.setIfInBounds_toArray, List.set_cons_zero, List.set_cons_succ, List.getElem_toArray, List.getElem_cons_succ, List.getElem_cons_zero]
          refine wpAnyH_done (by kernel_rfl) ?_ _
          have HW9 := Lib.hid (HW7.out.on ((((((Below.refl u7.heap.size u7).drew).trans (hb1.mono ((Below.refl u7.heap.size u7).drew).size)).trans (hb2.mono (((Below.refl u7.heap.size u7).drew).trans (hb1.mono ((Below.refl u7.heap.size u7).drew).size)).size)).trans (hb3.mono ((((Below.refl u7.heap.size u7).drew).trans (hb1.mono ((Below.refl u7.heap.size u7).drew).size)).trans (hb2.mono (((Below.refl u7.heap.size u7).drew).trans (hb1.mono ((Below.refl u7.heap.size u7).drew).size)).size)).size)).trans (hb4.mono (((((Below.refl u7.heap.size u7).drew).trans (hb1.mono ((Below.refl u7.heap.size u7).drew).size)).trans (hb2.mono (((Below.refl u7.heap.size u7).drew).trans (hb1.mono ((Below.refl u7.heap.size u7).drew).size)).size)).trans (hb3.mono ((((Below.refl u7.heap.size u7).drew).trans (hb1.mono ((Below.refl u7.heap.size u7).drew).size)).trans (hb2.mono (((Below.refl u7.heap.size u7).drew).trans (hb1.mono ((Below.refl u7.heap.size u7).drew).size)).size)).size)).size)))
          clear hb1 hb2 hb3 hb4 ho3 hHeld
          go_wp2_with fail
          go_roundw
          case rel => exact ⟨i + 1, t2, G4, H5, by omega, by go_num, HW9, HE2⟩
          case measure => simp [intOf] <;> omega
        · have h2b : (ow == 2) = false := by simp [h2]
          obtain ⟨⟨er, t2⟩, hR⟩ : ∃ R, joinP t oa ob = R := ⟨_, rfl⟩
          have HR := Lib.hid hR
          have m1 : (er != er) = false := by simp
          have HE2 := Lib.hid (show t2.l.length ≤ i + 1 ∧ t2.ev.length ≤ 2 * (i + 1) ∧ Gp t2 from by
            have h1 := join_few t oa ob
            rw [hR] at h1
            have h3 := HE.out.1
            have h4 := HE.out.2.1
            exact ⟨Nat.le_trans h1.1 (by omega), Nat.le_trans h1.2 (by omega), gp_set HE.out.2.2 hR⟩)
          clear hR
          go_upto_region 16 with (go_at_call 14; (with_reducible refine (z_join HWv.out.z HE.out.2.2 HFW.out oa ob er t2 HR.out).mono ?_); rintro e u4 ⟨G4, rfl, h1, h2⟩; have HW4 := Lib.hid (HWv.out.left h2 h1); have HB4 := Lib.hid (HB.out.step (h2.left H)); clear h1 h2)
          clear e0 e1 e2
          have e0 : u4.cell? ⟨kb, 0, none⟩ = some (.int .i64 ow) := HB4.out.b.cell 0
          have e1 : u4.cell? ⟨kb, 1, none⟩ = some (.int .i64 oa) := HB4.out.b.cell 1
          have e2 : u4.cell? ⟨kb, 2, none⟩ = some (.int .i64 ob) := HB4.out.b.cell 2
          go_upto_region 17 with (go_at_call 15; (with_reducible refine (pr_join HW4.out.d HFD.out.1 HFD.out.2 oa ob er t2 HR.out).mono ?_); rintro e u5 ⟨H5, rfl, h1, h2⟩; have HW5 := Lib.hid (HW4.out.right h2 h1); have HB5 := Lib.hid (HB4.out.step (h2.right G4)); clear h1 h2)
          clear e0 e1 e2
          have e0 : u5.cell? ⟨kb, 0, none⟩ = some (.int .i64 ow) := HB5.out.b.cell 0
          have e1 : u5.cell? ⟨kb, 1, none⟩ = some (.int .i64 oa) := HB5.out.b.cell 1
          have e2 : u5.cell? ⟨kb, 2, none⟩ = some (.int .i64 ob) := HB5.out.b.cell 2
          go_upto_region 19 with fail
          clear m1
          obtain ⟨⟨xo, bo⟩, hR3⟩ : ∃ R, othP t2.l ob = R := ⟨_, rfl⟩
          obtain ⟨rw, hR4⟩ : ∃ r, decide (oa ∈ t2.ev) = r := ⟨_, rfl⟩
          have HO := Lib.hid (And.intro hR3 hR4)
          have n1 : (xo != xo) = false := by simp
          have n2 : (bo != bo) = false := by simp
          have n3 : (rw != rw) = false := by simp
          have HF2 := Lib.hid (show t2.l.length ≤ 1000 ∧ t2.ev.length ≤ 2000 from ⟨by have := HE2.out.1; omega, by have := HE2.out.2.1; omega⟩)
          have HD2 := Lib.hid (show t2.l.length ≤ 1000000 ∧ t2.ev.length ≤ 1000000 from ⟨Nat.le_trans HF2.out.1 (by decide), Nat.le_trans HF2.out.2 (by decide)⟩)
          obtain ⟨M, hM⟩ : ∃ M, t2.l.length = M := ⟨_, rfl⟩
          have HM := Lib.hid hM
          clear hR3 hR4 hM
          go_upto_region 20 with (go_at_call 16; (with_reducible refine (z_other HW5.out.z HE2.out.2.2 HF2.out ob xo bo HO.out.1).mono ?_); rintro e u6 ⟨rfl, h1⟩; have HW6 := Lib.hid (HW5.out.on h1); have HB6 := Lib.hid (HB5.out.on h1); clear h1)
          clear e0 e1 e2
          have e0 : u6.cell? ⟨kb, 0, none⟩ = some (.int .i64 ow) := HB6.out.b.cell 0
          have e1 : u6.cell? ⟨kb, 1, none⟩ = some (.int .i64 oa) := HB6.out.b.cell 1
          have e2 : u6.cell? ⟨kb, 2, none⟩ = some (.int .i64 ob) := HB6.out.b.cell 2
          go_upto_region 21 with (go_at_call 17; (with_reducible refine (d_other HW6.out.d HD2.out.1 ob xo bo HO.out.1).mono ?_); rintro e u7 ⟨rfl, h1⟩; have HW7 := Lib.hid (HW6.out.on h1); have HB7 := Lib.hid (HB6.out.on h1); clear h1)
          clear e0 e1 e2
          obtain ⟨A9, c9, E9, d9, hbk, ho9, _⟩ := HW7.out.d.ex
          rw [HM.out] at hbk
          have HBK := Lib.hid hbk
          have HRD := Lib.hid (show Rw 2 ppc u7 A9 t2.l from Ow.rw_ (fun _ => rfl) ho9)
          clear hbk ho9
          try simp only [List.cons_append, List.nil_append]
          refine wp_region_held_drew (S := fun wz => Below u7.heap.size u7 wz) (by kernel_rfl) ((Below.refl _ _).drew) (fun hHeld => ?_)
          refine take_at (some 97) (i := 0) (v := ?_) rfl rfl (by kernel_rfl) (by kernel_rfl) (by kernel_rfl) (fun _ _ _ h => h) (Or.inl ⟨by kernel_rfl, ?_⟩) hHeld ?_
          rotate_left
          · intro wz hSw; go_simp; try (with_reducible rfl)
          try simp only [Act.put, List.setIfInBounds_toArray, List.set_cons_zero, List.set_cons_succ, List.getElem_toArray, List.getElem_cons_succ, List.getElem_cons_zero]
          refine take_at (some 98) (i := 1) (v := ?_) rfl rfl (by kernel_rfl) (by kernel_rfl) (by kernel_rfl) (fun _ _ _ h => h) (Or.inl ⟨by kernel_rfl, ?_⟩) hHeld ?_
          rotate_left
          · intro wz hSw; go_simp; try (with_reducible rfl)
          try simp only [Act.put, List.setIfInBounds_toArray, List.set_cons_zero, List.set_cons_succ, List.getElem_toArray, List.getElem_cons_succ, List.getElem_cons_zero]
          refine take_at (some 99) (i := 2) (v := ?_) rfl rfl (by kernel_rfl) (by kernel_rfl) (by kernel_rfl) (fun _ _ _ h => h) (Or.inl ⟨by kernel_rfl, ?_⟩) hHeld ?_
          rotate_left
          · intro wz hSw; go_simp; try (with_reducible rfl)
          try simp only [Act.put, List.setIfInBounds_toArray, List.set_cons_zero, List.set_cons_succ, List.getElem_toArray, List.getElem_cons_succ, List.getElem_cons_zero]
          refine take_at (some 100) (i := 3) (v := ?_) rfl rfl (by kernel_rfl) (by kernel_rfl) (by kernel_rfl) (fun _ _ _ h => h) (Or.inl ⟨by kernel_rfl, ?_⟩) hHeld ?_
          rotate_left
          · intro wz hSw; go_simp; try (with_reducible rfl)
          try simp only [Act.put, List.setIfInBounds_toArray, List.set_cons_zero, List.set_cons_succ, List.getElem_toArray, List.getElem_cons_succ, List.getElem_cons_zero]
          refine take_at (some 101) (i := 4) (v := ?_) rfl rfl (by kernel_rfl) (by kernel_rfl) (by kernel_rfl) (fun _ _ _ h => h) (Or.inl ⟨by kernel_rfl, ?_⟩) hHeld ?_
          rotate_left
          · intro wz hSw; go_simp; try (with_reducible rfl)
          try simp only [Act.put, List.setIfInBounds_toArray, List.set_cons_zero, List.set_cons_succ, List.getElem_toArray, List.getElem_cons_succ, List.getElem_cons_zero]
          refine take_at (some 102) (i := 5) (v := ?_) rfl rfl (by kernel_rfl) (by kernel_rfl) (by kernel_rfl) (fun _ _ _ h => h) (Or.inl ⟨by kernel_rfl, ?_⟩) hHeld ?_
          rotate_left
          · intro wz hSw; go_simp; try (with_reducible rfl)
          try simp only [Act.put, List.setIfInBounds_toArray, List.set_cons_zero, List.set_cons_succ, List.getElem_toArray, List.getElem_cons_succ, List.getElem_cons_zero]
          refine take_at (some 103) (i := 6) (v := ?_) rfl rfl (by kernel_rfl) (by kernel_rfl) (by kernel_rfl) (fun _ _ _ h => h) (Or.inl ⟨by kernel_rfl, ?_⟩) hHeld ?_
          rotate_left
          · intro wz hSw; go_simp; try (with_reducible rfl)
          try simp only [Act.put, List.setIfInBounds_toArray, List.set_cons_zero, List.set_cons_succ, List.getElem_toArray, List.getElem_cons_succ, List.getElem_cons_zero]
          refine take_at (some 104) (i := 7) (v := ?_) rfl rfl (by kernel_rfl) (by kernel_rfl) (by kernel_rfl) (fun _ _ _ h => h) (Or.inl ⟨by kernel_rfl, ?_⟩) hHeld ?_
          rotate_left
          · intro wz hSw; go_simp; try (with_reducible rfl)
          try simp only [Act.put, List.setIfInBounds_toArray, List.set_cons_zero, List.set_cons_succ, List.getElem_toArray, List.getElem_cons_succ, List.getElem_cons_zero]
          refine take_at (some 105) (i := 8) (v := ?_) rfl rfl (by kernel_rfl) (by kernel_rfl) (by kernel_rfl) (fun _ _ _ h => h) (Or.inl ⟨by kernel_rfl, ?_⟩) hHeld ?_
          rotate_left
          · intro wz hSw; go_simp; try (with_reducible rfl)
          try simp only [Act.put, List.setIfInBounds_toArray, List.set_cons_zero, List.set_cons_succ, List.getElem_toArray, List.getElem_cons_succ, List.getElem_cons_zero]
          refine take_at (some 106) (i := 9) (v := ?_) rfl rfl (by kernel_rfl) (by kernel_rfl) (by kernel_rfl) (fun _ _ _ h => h) (Or.inl ⟨by kernel_rfl, ?_⟩) hHeld ?_
          rotate_left
          · intro wz hSw; go_simp; try (with_reducible rfl)
          try simp only [Act.put, List.setIfInBounds_toArray, List.set_cons_zero, List.set_cons_succ, List.getElem_toArray, List.getElem_cons_succ, List.getElem_cons_zero]
          refine take_at (some 107) (i := 10) (v := ?_) rfl rfl (by kernel_rfl) (by kernel_rfl) (by kernel_rfl) (fun _ _ _ h => h) (Or.inl ⟨by kernel_rfl, ?_⟩) hHeld ?_
          rotate_left
          · intro wz hSw; go_simp; try (with_reducible rfl)
          try simp only [Act.put, List.setIfInBounds_toArray, List.set_cons_zero, List.set_cons_succ, List.getElem_toArray, List.getElem_cons_succ, List.getElem_cons_zero]
          refine take_at (some 108) (i := 11) (v := ?_) rfl rfl (by kernel_rfl) (by kernel_rfl) (by kernel_rfl) (fun _ _ _ h => h) (Or.inl ⟨by kernel_rfl, ?_⟩) hHeld ?_
          rotate_left
          · intro wz hSw; have e1 : wz.cell? ⟨kb, 1, none⟩ = some (.int .i64 oa) := (HB7.out.b.below hSw HB7.out.b.lt).cell 1; go_simp; try (with_reducible rfl)
          try simp only [Act.put, List.setIfInBounds_toArray, List.set_cons_zero, List.set_cons_succ, List.getElem_toArray, List.getElem_cons_succ, List.getElem_cons_zero]
          refine take_at (some 110) (i := 13) (v := ?_) rfl rfl (by kernel_rfl) (by kernel_rfl) (by kernel_rfl) (fun _ _ _ h => h) (Or.inl ⟨by kernel_rfl, ?_⟩) hHeld ?_
          rotate_left
          · intro wz hSw; go_simp; try (with_reducible rfl)
          try simp only [Act.put, List.setIfInBounds_toArray, List.set_cons_zero, List.set_cons_succ, List.getElem_toArray, List.getElem_cons_succ, List.getElem_cons_zero]
          refine take_at (some 111) (i := 14) (v := ?_) rfl rfl (by kernel_rfl) (by kernel_rfl) (by kernel_rfl) (fun _ _ _ h => h) (Or.inl ⟨by kernel_rfl, ?_⟩) hHeld ?_
          rotate_left
          · intro wz hSw; go_simp; try (with_reducible rfl)
          try simp only [Act.put, List.setIfInBounds_toArray, List.set_cons_zero, List.set_cons_succ, List.getElem_toArray, List.getElem_cons_succ, List.getElem_cons_zero]
          refine take_at (some 112) (i := 15) (v := ?_) rfl rfl (by kernel_rfl) (by kernel_rfl) (by kernel_rfl) (fun _ _ _ h => h) (Or.inl ⟨by kernel_rfl, ?_⟩) hHeld ?_
          rotate_left
          · intro wz hSw; have e1 : wz.cell? ⟨kb, 1, none⟩ = some (.int .i64 oa) := (HB7.out.b.below hSw HB7.out.b.lt).cell 1; go_simp; try (with_reducible rfl)
          try simp only [Act.put, List.setIfInBounds_toArray, List.set_cons_zero, List.set_cons_succ, List.getElem_toArray, List.getElem_cons_succ, List.getElem_cons_zero]
          refine wpAnyH_ready (rs := [12]) (by kernel_rfl) (by simp) (AllReadyH.cons rfl (fun K hK => ?_) AllReadyH.nil)
          rw [if_pos (by kernel_rfl)]
          go_simp
          refine (z_was (HW7.out.z.on ((Below.refl u7.heap.size u7).drew)) HE2.out.2.2 HF2.out oa rw HO.out.2).mono ?_
          rintro e y1 ⟨rfl, hb1⟩
          try dsimp only
          refine hK.out _ _ (((Below.refl u7.heap.size u7).drew).trans (hb1.mono ((Below.refl u7.heap.size u7).drew).size)) (fun hHeld => ?_)
          try simp only [Act.put, List.setIfInBounds_toArray, List.set_cons_zero, List.set_cons_succ, List.getElem_toArray, List.getElem_cons_succ, List.getElem_cons_zero]
          refine wpAnyH_ready (rs := [16]) (by kernel_rfl) (by simp) (AllReadyH.cons rfl (fun K hK => ?_) AllReadyH.nil)
          rw [if_pos (by kernel_rfl)]
          go_simp
          refine (d_was (HW7.out.d.on (((Below.refl u7.heap.size u7).drew).trans (hb1.mono ((Below.refl u7.heap.size u7).drew).size))) HD2.out.2 oa rw HO.out.2).mono ?_
          rintro e y2 ⟨rfl, hb2⟩
          try dsimp only
          refine hK.out _ _ ((((Below.refl u7.heap.size u7).drew).trans (hb1.mono ((Below.refl u7.heap.size u7).drew).size)).trans (hb2.mono (((Below.refl u7.heap.size u7).drew).trans (hb1.mono ((Below.refl u7.heap.size u7).drew).size)).size)) (fun hHeld => ?_)
          try simp only [Act.put, List.setIfInBounds_toArray, List.set_cons_zero, List.set_cons_succ, List.getElem_toArray, List.getElem_cons_succ, List.getElem_cons_zero]
          refine take_at (some 114) (i := 17) (v := ?_) rfl rfl (by kernel_rfl) (by kernel_rfl) (by kernel_rfl) (fun _ _ _ h => h) (Or.inl ⟨by kernel_rfl, ?_⟩) hHeld ?_
          rotate_left
          · intro wz hSw; go_simp; try (with_reducible rfl)
          try simp only [Act.put, List.setIfInBounds_toArray, List.set_cons_zero, List.set_cons_succ, List.getElem_toArray, List.getElem_cons_succ, List.getElem_cons_zero]
          refine take_at (some 115) (i := 18) (v := ?_) rfl rfl (by kernel_rfl) (by kernel_rfl) (by kernel_rfl) (fun _ _ _ h => h) (Or.inl ⟨by kernel_rfl, ?_⟩) hHeld ?_
          rotate_left
          · intro wz hSw; go_simp; try (with_reducible rfl)
          try simp only [Act.put, List.setIfInBounds_toArray, List.set_cons_zero, List.set_cons_succ, List.getElem_toArray, List.getElem_cons_succ, List.getElem_cons_zero]
          refine take_at (some 116) (i := 19) (v := ?_) rfl rfl (by kernel_rfl) (by kernel_rfl) (by kernel_rfl) (fun _ _ _ h => h) (Or.inl ⟨by kernel_rfl, ?_⟩) hHeld ?_
          rotate_left
          · intro wz hSw; go_simp; try (with_reducible rfl)
          try simp only [Act.put, List.setIfInBounds_toArray, List.set_cons_zero, List.set_cons_succ, List.getElem_toArray, List.getElem_cons_succ, List.getElem_cons_zero]
          refine take_at (some 117) (i := 20) (v := ?_) rfl rfl (by kernel_rfl) (by kernel_rfl) (by kernel_rfl) (fun _ _ _ h => h) (Or.inl ⟨by kernel_rfl, ?_⟩) hHeld ?_
          rotate_left
          · intro wz hSw; go_simp; try (with_reducible rfl)
          try simp only [Act.put, List.setIfInBounds_toArray, List.set_cons_zero, List.set_cons_succ, List.getElem_toArray, List.getElem_cons_succ, List.getElem_cons_zero]
          refine take_at (some 119) (i := 22) (v := ?_) rfl rfl (by kernel_rfl) (by kernel_rfl) (by kernel_rfl) (fun _ _ _ h => h) (Or.inl ⟨by kernel_rfl, ?_⟩) hHeld ?_
          rotate_left
          · intro wz hSw; go_simp; try (with_reducible rfl)
          try simp only [Act.put, List.setIfInBounds_toArray, List.set_cons_zero, List.set_cons_succ, List.getElem_toArray, List.getElem_cons_succ, List.getElem_cons_zero]
          refine take_at (some 120) (i := 23) (v := ?_) rfl rfl (by kernel_rfl) (by kernel_rfl) (by kernel_rfl) (fun _ _ _ h => h) (Or.inl ⟨by kernel_rfl, ?_⟩) hHeld ?_
          rotate_left
          · intro wz hSw; go_simp; try (with_reducible rfl)
          try simp only [Act.put, List.setIfInBounds_toArray, List.set_cons_zero, List.set_cons_succ, List.getElem_toArray, List.getElem_cons_succ, List.getElem_cons_zero]
          refine take_at (some 121) (i := 24) (v := ?_) rfl rfl (by kernel_rfl) (by kernel_rfl) (by kernel_rfl) (fun _ _ _ h => h) (Or.inl ⟨by kernel_rfl, ?_⟩) hHeld ?_
          rotate_left
          · intro wz hSw; go_simp; try (with_reducible rfl)
          try simp only [Act.put, List.setIfInBounds_toArray, List.set_cons_zero, List.set_cons_succ, List.getElem_toArray, List.getElem_cons_succ, List.getElem_cons_zero]
          refine take_at (some 122) (i := 25) (v := ?_) rfl rfl (by kernel_rfl) (by kernel_rfl) (by kernel_rfl) (fun _ _ _ h => h) (Or.inl ⟨by kernel_rfl, ?_⟩) hHeld ?_
          rotate_left
          · intro wz hSw; have d0 : wz.cell? ⟨rb, 0, none⟩ = some (.slice A9 M c9) := (HBK.out.below hSw HBK.out.lt).cell 0; go_simp; try (with_reducible rfl)
          try simp only [Act.put, List.setIfInBounds_toArray, List.set_cons_zero, List.set_cons_succ, List.getElem_toArray, List.getElem_cons_succ, List.getElem_cons_zero]
          refine wpAnyH_ready (rs := [21]) (by kernel_rfl) (by simp) (AllReadyH.cons rfl (fun K hK => ?_) AllReadyH.nil)
          rw [if_pos (by kernel_rfl)]
          go_simp
          refine (z_all (HW7.out.z.on ((((Below.refl u7.heap.size u7).drew).trans (hb1.mono ((Below.refl u7.heap.size u7).drew).size)).trans (hb2.mono (((Below.refl u7.heap.size u7).drew).trans (hb1.mono ((Below.refl u7.heap.size u7).drew).size)).size))) HE2.out.2.2 HF2.out M HM.out).mono ?_
          rintro e y3 ⟨A8, c8, rfl, ho3, hb3⟩
          try dsimp only
          refine hK.out _ _ (((((Below.refl u7.heap.size u7).drew).trans (hb1.mono ((Below.refl u7.heap.size u7).drew).size)).trans (hb2.mono (((Below.refl u7.heap.size u7).drew).trans (hb1.mono ((Below.refl u7.heap.size u7).drew).size)).size)).trans (hb3.mono ((((Below.refl u7.heap.size u7).drew).trans (hb1.mono ((Below.refl u7.heap.size u7).drew).size)).trans (hb2.mono (((Below.refl u7.heap.size u7).drew).trans (hb1.mono ((Below.refl u7.heap.size u7).drew).size)).size)).size)) (fun hHeld => ?_)
          try simp only [Act.put, List.setIfInBounds_toArray, List.set_cons_zero, List.set_cons_succ, List.getElem_toArray, List.getElem_cons_succ, List.getElem_cons_zero]
          refine wpAnyH_ready (rs := [26]) (by kernel_rfl) (by simp) (AllReadyH.cons rfl (fun K hK => ?_) AllReadyH.nil)
          rw [if_pos (by kernel_rfl)]
          go_simp
          refine (pr_same A8 A9 c8 c9 t2.l t2.l y3 M M HM.out HM.out (Ow.rw_ (fun _ => rfl) ho3) (HRD.out.on (((((Below.refl u7.heap.size u7).drew).trans (hb1.mono ((Below.refl u7.heap.size u7).drew).size)).trans (hb2.mono (((Below.refl u7.heap.size u7).drew).trans (hb1.mono ((Below.refl u7.heap.size u7).drew).size)).size)).trans (hb3.mono ((((Below.refl u7.heap.size u7).drew).trans (hb1.mono ((Below.refl u7.heap.size u7).drew).size)).trans (hb2.mono (((Below.refl u7.heap.size u7).drew).trans (hb1.mono ((Below.refl u7.heap.size u7).drew).size)).size)).size))) (by have := HM.out; have := HF2.out.1; omega) (by have := HM.out; have := HF2.out.1; omega) true (decide_eq_true rfl)).mono ?_
          rintro e y4 ⟨rfl, hb4⟩
          try dsimp only
          refine hK.out _ _ ((((((Below.refl u7.heap.size u7).drew).trans (hb1.mono ((Below.refl u7.heap.size u7).drew).size)).trans (hb2.mono (((Below.refl u7.heap.size u7).drew).trans (hb1.mono ((Below.refl u7.heap.size u7).drew).size)).size)).trans (hb3.mono ((((Below.refl u7.heap.size u7).drew).trans (hb1.mono ((Below.refl u7.heap.size u7).drew).size)).trans (hb2.mono (((Below.refl u7.heap.size u7).drew).trans (hb1.mono ((Below.refl u7.heap.size u7).drew).size)).size)).size)).trans (hb4.mono (((((Below.refl u7.heap.size u7).drew).trans (hb1.mono ((Below.refl u7.heap.size u7).drew).size)).trans (hb2.mono (((Below.refl u7.heap.size u7).drew).trans (hb1.mono ((Below.refl u7.heap.size u7).drew).size)).size)).trans (hb3.mono ((((Below.refl u7.heap.size u7).drew).trans (hb1.mono ((Below.refl u7.heap.size u7).drew).size)).trans (hb2.mono (((Below.refl u7.heap.size u7).drew).trans (hb1.mono ((Below.refl u7.heap.size u7).drew).size)).size)).size)).size)) (fun hHeld => ?_)
          try simp only [Act.put, List.setIfInBounds_toArray, List.set_cons_zero, List.set_cons_succ, List.getElem_toArray, List.getElem_cons_succ, List.getElem_cons_zero]
          refine take_at (some 124) (i := 27) (v := ?_) rfl rfl (by kernel_rfl) (by kernel_rfl) (by kernel_rfl) (fun _ _ _ h => h) (Or.inl ⟨by kernel_rfl, ?_⟩) hHeld ?_
          rotate_left
          · intro wz hSw; go_simp; try (with_reducible rfl)
          try simp only [Act.put, List.setIfInBounds_toArray, List.set_cons_zero, List.set_cons_succ, List.getElem_toArray, List.getElem_cons_succ, List.getElem_cons_zero]
          refine take_at (some 125) (i := 28) (v := ?_) rfl rfl (by kernel_rfl) (by kernel_rfl) (by kernel_rfl) (fun _ _ _ h => h) (Or.inl ⟨by kernel_rfl, ?_⟩) hHeld ?_
          rotate_left
          · intro wz hSw; go_simp; try (with_reducible rfl)
          try simp only [Act.put, List.setIfInBounds_toArray, List.set_cons_zero, List.set_cons_succ, List.getElem_toArray, List.getElem_cons_succ, List.getElem_cons_zero]
          refine wpAnyH_done (by kernel_rfl) ?_ _
          have HW9 := Lib.hid (HW7.out.on ((((((Below.refl u7.heap.size u7).drew).trans (hb1.mono ((Below.refl u7.heap.size u7).drew).size)).trans (hb2.mono (((Below.refl u7.heap.size u7).drew).trans (hb1.mono ((Below.refl u7.heap.size u7).drew).size)).size)).trans (hb3.mono ((((Below.refl u7.heap.size u7).drew).trans (hb1.mono ((Below.refl u7.heap.size u7).drew).size)).trans (hb2.mono (((Below.refl u7.heap.size u7).drew).trans (hb1.mono ((Below.refl u7.heap.size u7).drew).size)).size)).size)).trans (hb4.mono (((((Below.refl u7.heap.size u7).drew).trans (hb1.mono ((Below.refl u7.heap.size u7).drew).size)).trans (hb2.mono (((Below.refl u7.heap.size u7).drew).trans (hb1.mono ((Below.refl u7.heap.size u7).drew).size)).size)).trans (hb3.mono ((((Below.refl u7.heap.size u7).drew).trans (hb1.mono ((Below.refl u7.heap.size u7).drew).size)).trans (hb2.mono (((Below.refl u7.heap.size u7).drew).trans (hb1.mono ((Below.refl u7.heap.size u7).drew).size)).size)).size)).size)))
          clear hb1 hb2 hb3 hb4 ho3 hHeld
          go_wp2_with fail
          go_roundw
          case rel => exact ⟨i + 1, t2, G4, H5, by omega, by go_num, HW9, HE2⟩
          case measure => simp [intOf] <;> omega
      · have hi2 : ¬ (i : Int) < (n : Int) := by omega
        go_wp2_with fail
        go_ret
        exact ⟨rfl, HW.out.z.l⟩
end Go.Proofs.Ytinjldjpncijjaa
