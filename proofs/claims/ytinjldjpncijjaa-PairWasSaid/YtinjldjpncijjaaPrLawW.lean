/- PairWas: who ever was in a pair is told so for ever: the walk. (Written by gen_prwas.py.) -/
import Derived.Test.YtinjldjpncijjaaPrH
import Derived.Test.YtinjldjpncijjaaG8
namespace Go.Proofs.Ytinjldjpncijjaa
set_option linter.unusedVariables false
set_option maxRecDepth 100000
set_option linter.unusedSimpArgs false
open Go.RowKit

set_option maxRecDepth 100000 in
set_option maxHeartbeats 16000000 in
theorem walk_PairWas (A : Option Addr) (L : List CoM) (n c : Nat) (W : World) (h : InC W A L n c) :
    Calls Try.prog 8 #[.slice A n c] W fun e w' => e = .returned (.bool true) ∧ Below W.heap.size W w' := by
  have HI := Lib.hid h
  have hcapn : n ≤ 9223372036854775807 := by have h1 := h.cap; have h2 := h.max; unfold maxLen at h2; omega
  clear h
  go_enter Try.func8, Try.ntmps8
  go_upto_region 2 with (go_at_call 9; (with_reducible refine (phead_ok _).mono ?_); rintro e u1 ⟨rfl, hb⟩; have HB1 := Lib.hid hb; clear hb)
  go_upto_region 3 with (go_at_call 10; (with_reducible refine (z_pnew HB1.out).mono ?_); rintro e u2 ⟨H2, tb, rfl, h1, h2, h3⟩; have HZ2 := Lib.hid h1; clear h1 h2 h3)
  by_cases hgt : n > 300
  · have hg2 : (n : Int) > 300 := by omega
    have hg3 : decide ((300 : Int) < (n : Int)) = true := decide_eq_true (by omega)
    go_wp2
    go_ret
    exact ⟨rfl, HZ2.out.l⟩
  · have hg2 : ¬ (n : Int) > 300 := by omega
    have hg3 : decide ((300 : Int) < (n : Int)) = false := decide_eq_false (by omega)
    go_wp2_with fail
    go_loopw [5, 6, 7] (fun v5 v6 v7 wr => ∃ (i m k : Nat) (t : Tp) (H : List Nat) (A5 : Option Addr) (c5 : Nat), i ≤ n ∧ v5 = .int .i64 (k : Int) ∧ v6 = .slice A5 m c5 ∧ v7 = .int .i64 (i : Int) ∧ Hid (Zp W wr H tb t) ∧ Hid (Lrk 3 1 piv W wr H A5 c5 t.ev) ∧ Hid (t.ev.length = m ∧ t.l.length = k ∧ m ≤ 2 * i ∧ k ≤ i ∧ Gp t)) (fun v5 v6 v7 _ => n - (intOf v7).toNat)
    case atStart => exact ⟨0, 0, 0, ⟨[], []⟩, H2, none, 0, by omega, rfl, rfl, rfl, HZ2, Lib.hid (Lrk.nil _ _ _), Lib.hid ⟨rfl, rfl, by omega, by omega, gp_nil⟩⟩
    case round =>
      obtain ⟨i, m, k, t, H, A5, c5, hi, rfl, rfl, rfl, HZ, HX, HE⟩ := hrel
      have hm6 : m ≤ 2 * i := HE.out.2.2.1
      have hk6 : k ≤ i := HE.out.2.2.2.1
      by_cases hi1 : i < n
      · have hi2 : (i : Int) < (n : Int) := by omega
        have HFW := Lib.hid (show t.l.length ≤ 1000 ∧ t.ev.length ≤ 2000 from ⟨by have := HE.out.2.1; omega, by have := HE.out.1; omega⟩)
        obtain ⟨bx, o, op, rfl, hx, hwf, hc⟩ := HI.out.at_ i hi1
        obtain ⟨ow, oa, ob⟩ := op
        dsimp only at hc
        obtain ⟨x0, x1, x2⟩ := hc wr HZ.out.l
        have HC := Lib.hid hc
        have HWA := Lib.hid (show WfN oa from hwf.2.1)
        have HWB := Lib.hid (show WfN ob from hwf.2.2)
        clear hx hc hwf
        by_cases h2 : ow = 2
        · subst h2
          obtain ⟨⟨⟨x, b⟩, t2⟩, hR⟩ : ∃ R, partP t oa = R := ⟨_, rfl⟩
          have hev : t2.ev = t.ev := (congrArg (fun r => r.2.ev) hR).symm
          have hlen : t2.l.length + (if b = true then 1 else 0) = k := by
            have h1 := part_len HE.out.2.2.2.2.nd oa
            rw [show partL t.l oa = t2.l from congrArg (fun r => r.2.l) hR, show othP t.l oa = (x, b) from congrArg Prod.fst hR, HE.out.2.1] at h1
            exact h1
          have HR := Lib.hid hR
          have HG2 := Lib.hid (gp_out HE.out.2.2.2.2 hR)
          have HEV := Lib.hid hev
          clear hR hev
          go_upto_region 12 with (go_at_call 12; (with_reducible refine (z_part HZ.out HE.out.2.2.2.2 HFW.out oa x b t2 HR.out).mono ?_); rintro e u3 ⟨H3, rfl, h1, h2⟩; have HZ3 := Lib.hid h1; have HX3 := Lib.hid (show Lrk 3 1 piv W u3 H3 A5 c5 t2.ev by rw [HEV.out]; exact HX.out.step h2); clear h1 h2)
          clear x0 x1 x2
          cases b with
          | true =>
            obtain ⟨k2, rfl⟩ : ∃ k2, k = k2 + 1 := ⟨t2.l.length, by rw [if_pos rfl] at hlen; omega⟩
            have HE2 := Lib.hid (show t2.ev.length = m ∧ t2.l.length = k2 ∧ m ≤ 2 * (i + 1) ∧ k2 ≤ i + 1 ∧ Gp t2 from ⟨by rw [HEV.out]; exact HE.out.1, by rw [if_pos rfl] at hlen; omega, by omega, by omega, HG2.out⟩)
            clear hlen
            have hw1 : IntKind.i64.wrap (((k2 + 1 : Nat) : Int) - 1) = (k2 : Int) := by rw [IntKind.wrap_i64]; omega
            go_upto_region 17 with fail
            try rw [hw1]
            clear hw1
            obtain ⟨r1, hr1⟩ : ∃ r, decide (oa ∈ t2.ev) = r := ⟨_, rfl⟩
            obtain ⟨r2, hr2⟩ : ∃ r, decide (ob ∈ t2.ev) = r := ⟨_, rfl⟩
            have HRR := Lib.hid (And.intro hr1 hr2)
            have hq1 : (r1 != r1) = false := by simp
            have hq2 : (r2 != r2) = false := by simp
            have hkk : (((k2 : Nat) : Int) != ((k2 : Nat) : Int)) = false := by simp
            clear hr1 hr2
            have HF2 := Lib.hid (show t2.l.length ≤ 1000 ∧ t2.ev.length ≤ 2000 from ⟨by have := HE2.out.2.1; have := HE2.out.2.2.2.1; omega, by have := HE2.out.1; have := HE2.out.2.2.1; omega⟩)
            have hm8 : m ≤ 1000000 := by have := HE2.out.2.2.1; omega
            try simp only [List.cons_append, List.nil_append]
            refine wp_region_held_drew (S := fun wz => Below W.heap.size W wz) (by kernel_rfl) (HZ3.out.l.trans (((Below.refl u3.heap.size u3).drew).mono HZ3.out.l.size)) (fun hHeld => ?_)
            refine take_at (some 77) (i := 0) (v := ?_) rfl rfl (by kernel_rfl) (by kernel_rfl) (by kernel_rfl) (fun _ _ _ h => h) (Or.inl ⟨by kernel_rfl, ?_⟩) hHeld ?_
            rotate_left
            · intro wz hSw; go_simp; try (with_reducible rfl)
            try simp only [Act.put, List.setIfInBounds_toArray, List.set_cons_zero, List.set_cons_succ, List.getElem_toArray, List.getElem_cons_succ, List.getElem_cons_zero]
            refine take_at (some 80) (i := 3) (v := ?_) rfl rfl (by kernel_rfl) (by kernel_rfl) (by kernel_rfl) (fun _ _ _ h => h) (Or.inl ⟨by kernel_rfl, ?_⟩) hHeld ?_
            rotate_left
            · intro wz hSw; go_simp; try (with_reducible rfl)
            try simp only [Act.put, List.setIfInBounds_toArray, List.set_cons_zero, List.set_cons_succ, List.getElem_toArray, List.getElem_cons_succ, List.getElem_cons_zero]
            refine wpAnyH_ready (rs := [1]) (by kernel_rfl) (by simp) (AllReadyH.cons rfl (fun K hK => ?_) AllReadyH.nil)
            rw [if_pos (by kernel_rfl)]
            go_simp
            refine (z_all (HZ3.out.on ((Below.refl u3.heap.size u3).drew)) HE2.out.2.2.2.2 HF2.out (k2) HE2.out.2.1).mono ?_
            rintro e y1 ⟨A8, c8, rfl, ho1, hb1⟩
            try dsimp only
            refine hK.out _ _ (HZ3.out.l.trans ((((Below.refl u3.heap.size u3).drew).trans (hb1.mono ((Below.refl u3.heap.size u3).drew).size)).mono HZ3.out.l.size)) (fun hHeld => ?_)
            try simp only [Act.put, List.setIfInBounds_toArray, List.set_cons_zero, List.set_cons_succ, List.getElem_toArray, List.getElem_cons_succ, List.getElem_cons_zero]
            refine take_at (some 79) (i := 2) (v := ?_) rfl rfl (by kernel_rfl) (by kernel_rfl) (by kernel_rfl) (fun _ _ _ h => h) (Or.inl ⟨by kernel_rfl, ?_⟩) hHeld ?_
            rotate_left
            · intro wz hSw; go_simp; try (with_reducible rfl)
            try simp only [Act.put, List.setIfInBounds_toArray, List.set_cons_zero, List.set_cons_succ, List.getElem_toArray, List.getElem_cons_succ, List.getElem_cons_zero]
            refine take_at (some 81) (i := 4) (v := ?_) rfl rfl (by kernel_rfl) (by kernel_rfl) (by kernel_rfl) (fun _ _ _ h => h) (Or.inl ⟨by kernel_rfl, ?_⟩) hHeld ?_
            rotate_left
            · intro wz hSw; go_simp; try (with_reducible rfl)
            try simp only [Act.put, List.setIfInBounds_toArray, List.set_cons_zero, List.set_cons_succ, List.getElem_toArray, List.getElem_cons_succ, List.getElem_cons_zero]
            refine take_at (some 82) (i := 5) (v := ?_) rfl rfl (by kernel_rfl) (by kernel_rfl) (by kernel_rfl) (fun _ _ _ h => h) (Or.inl ⟨by kernel_rfl, ?_⟩) hHeld ?_
            rotate_left
            · intro wz hSw; go_simp; try (with_reducible rfl)
            try simp only [Act.put, List.setIfInBounds_toArray, List.set_cons_zero, List.set_cons_succ, List.getElem_toArray, List.getElem_cons_succ, List.getElem_cons_zero]
            refine take_at (some 83) (i := 6) (v := ?_) rfl rfl (by kernel_rfl) (by kernel_rfl) (by kernel_rfl) (fun _ _ _ h => h) (Or.inl ⟨by kernel_rfl, ?_⟩) hHeld ?_
            rotate_left
            · intro wz hSw; go_simp; try (with_reducible rfl)
            try simp only [Act.put, List.setIfInBounds_toArray, List.set_cons_zero, List.set_cons_succ, List.getElem_toArray, List.getElem_cons_succ, List.getElem_cons_zero]
            refine take_at (some 84) (i := 7) (v := ?_) rfl rfl (by kernel_rfl) (by kernel_rfl) (by kernel_rfl) (fun _ _ _ h => h) (Or.inl ⟨by kernel_rfl, ?_⟩) hHeld ?_
            rotate_left
            · intro wz hSw; go_simp; try (with_reducible rfl)
            try simp only [Act.put, List.setIfInBounds_toArray, List.set_cons_zero, List.set_cons_succ, List.getElem_toArray, List.getElem_cons_succ, List.getElem_cons_zero]
            refine take_at (some 85) (i := 8) (v := ?_) rfl rfl (by kernel_rfl) (by kernel_rfl) (by kernel_rfl) (fun _ _ _ h => h) (Or.inl ⟨by kernel_rfl, ?_⟩) hHeld ?_
            rotate_left
            · intro wz hSw; go_simp; try (with_reducible rfl)
            try simp only [Act.put, List.setIfInBounds_toArray, List.set_cons_zero, List.set_cons_succ, List.getElem_toArray, List.getElem_cons_succ, List.getElem_cons_zero]
            refine take_at (some 86) (i := 9) (v := ?_) rfl rfl (by kernel_rfl) (by kernel_rfl) (by kernel_rfl) (fun _ _ _ h => h) (Or.inl ⟨by kernel_rfl, ?_⟩) hHeld ?_
            rotate_left
            · intro wz hSw; go_simp; try (with_reducible rfl)
            try simp only [Act.put, List.setIfInBounds_toArray, List.set_cons_zero, List.set_cons_succ, List.getElem_toArray, List.getElem_cons_succ, List.getElem_cons_zero]
            refine take_at (some 87) (i := 10) (v := ?_) rfl rfl (by kernel_rfl) (by kernel_rfl) (by kernel_rfl) (fun _ _ _ h => h) (Or.inl ⟨by kernel_rfl, ?_⟩) hHeld ?_
            rotate_left
            · intro wz hSw; go_simp; try (with_reducible rfl)
            try simp only [Act.put, List.setIfInBounds_toArray, List.set_cons_zero, List.set_cons_succ, List.getElem_toArray, List.getElem_cons_succ, List.getElem_cons_zero]
            refine take_at (some 88) (i := 11) (v := ?_) rfl rfl (by kernel_rfl) (by kernel_rfl) (by kernel_rfl) (fun _ _ _ h => h) (Or.inl ⟨by kernel_rfl, ?_⟩) hHeld ?_
            rotate_left
            · intro wz hSw; obtain ⟨x0, x1, x2⟩ := HC.out wz hSw; go_simp; try (with_reducible rfl)
            try simp only [Act.put, List.setIfInBounds_toArray, List.set_cons_zero, List.set_cons_succ, List.getElem_toArray, List.getElem_cons_succ, List.getElem_cons_zero]
            refine take_at (some 90) (i := 13) (v := ?_) rfl rfl (by kernel_rfl) (by kernel_rfl) (by kernel_rfl) (fun _ _ _ h => h) (Or.inl ⟨by kernel_rfl, ?_⟩) hHeld ?_
            rotate_left
            · intro wz hSw; go_simp; try (with_reducible rfl)
            try simp only [Act.put, List.setIfInBounds_toArray, List.set_cons_zero, List.set_cons_succ, List.getElem_toArray, List.getElem_cons_succ, List.getElem_cons_zero]
            refine take_at (some 91) (i := 14) (v := ?_) rfl rfl (by kernel_rfl) (by kernel_rfl) (by kernel_rfl) (fun _ _ _ h => h) (Or.inl ⟨by kernel_rfl, ?_⟩) hHeld ?_
            rotate_left
            · intro wz hSw; go_simp; try (with_reducible rfl)
            try simp only [Act.put, List.setIfInBounds_toArray, List.set_cons_zero, List.set_cons_succ, List.getElem_toArray, List.getElem_cons_succ, List.getElem_cons_zero]
            refine take_at (some 92) (i := 15) (v := ?_) rfl rfl (by kernel_rfl) (by kernel_rfl) (by kernel_rfl) (fun _ _ _ h => h) (Or.inl ⟨by kernel_rfl, ?_⟩) hHeld ?_
            rotate_left
            · intro wz hSw; go_simp; try (with_reducible rfl)
            try simp only [Act.put, List.setIfInBounds_toArray, List.set_cons_zero, List.set_cons_succ, List.getElem_toArray, List.getElem_cons_succ, List.getElem_cons_zero]
            refine take_at (some 93) (i := 16) (v := ?_) rfl rfl (by kernel_rfl) (by kernel_rfl) (by kernel_rfl) (fun _ _ _ h => h) (Or.inl ⟨by kernel_rfl, ?_⟩) hHeld ?_
            rotate_left
            · intro wz hSw; go_simp; try (with_reducible rfl)
            try simp only [Act.put, List.setIfInBounds_toArray, List.set_cons_zero, List.set_cons_succ, List.getElem_toArray, List.getElem_cons_succ, List.getElem_cons_zero]
            refine take_at (some 94) (i := 17) (v := ?_) rfl rfl (by kernel_rfl) (by kernel_rfl) (by kernel_rfl) (fun _ _ _ h => h) (Or.inl ⟨by kernel_rfl, ?_⟩) hHeld ?_
            rotate_left
            · intro wz hSw; go_simp; try (with_reducible rfl)
            try simp only [Act.put, List.setIfInBounds_toArray, List.set_cons_zero, List.set_cons_succ, List.getElem_toArray, List.getElem_cons_succ, List.getElem_cons_zero]
            refine take_at (some 95) (i := 18) (v := ?_) rfl rfl (by kernel_rfl) (by kernel_rfl) (by kernel_rfl) (fun _ _ _ h => h) (Or.inl ⟨by kernel_rfl, ?_⟩) hHeld ?_
            rotate_left
            · intro wz hSw; obtain ⟨x0, x1, x2⟩ := HC.out wz hSw; go_simp; try (with_reducible rfl)
            try simp only [Act.put, List.setIfInBounds_toArray, List.set_cons_zero, List.set_cons_succ, List.getElem_toArray, List.getElem_cons_succ, List.getElem_cons_zero]
            refine wpAnyH_ready (rs := [12]) (by kernel_rfl) (by simp) (AllReadyH.cons rfl (fun K hK => ?_) AllReadyH.nil)
            rw [if_pos (by kernel_rfl)]
            go_simp
            refine (z_was (HZ3.out.on (((Below.refl u3.heap.size u3).drew).trans (hb1.mono ((Below.refl u3.heap.size u3).drew).size))) HE2.out.2.2.2.2 HF2.out oa r1 HRR.out.1).mono ?_
            rintro e y2 ⟨rfl, hb2⟩
            try dsimp only
            refine hK.out _ _ (HZ3.out.l.trans (((((Below.refl u3.heap.size u3).drew).trans (hb1.mono ((Below.refl u3.heap.size u3).drew).size)).trans (hb2.mono (((Below.refl u3.heap.size u3).drew).trans (hb1.mono ((Below.refl u3.heap.size u3).drew).size)).size)).mono HZ3.out.l.size)) (fun hHeld => ?_)
            try simp only [Act.put, List.setIfInBounds_toArray, List.set_cons_zero, List.set_cons_succ, List.getElem_toArray, List.getElem_cons_succ, List.getElem_cons_zero]
            refine wpAnyH_ready (rs := [19]) (by kernel_rfl) (by simp) (AllReadyH.cons rfl (fun K hK => ?_) AllReadyH.nil)
            rw [if_pos (by kernel_rfl)]
            go_simp
            refine (phas_ok (A5) t2.ev (m) (c5) y2 oa (Ow.rw_ (fun _ => rfl) (HX3.out.on ((((Below.refl u3.heap.size u3).drew).trans (hb1.mono ((Below.refl u3.heap.size u3).drew).size)).trans (hb2.mono (((Below.refl u3.heap.size u3).drew).trans (hb1.mono ((Below.refl u3.heap.size u3).drew).size)).size))).o) HE2.out.1 hm8 r1 HRR.out.1).mono ?_
            rintro e y3 ⟨rfl, hb3⟩
            try dsimp only
            refine hK.out _ _ (HZ3.out.l.trans ((((((Below.refl u3.heap.size u3).drew).trans (hb1.mono ((Below.refl u3.heap.size u3).drew).size)).trans (hb2.mono (((Below.refl u3.heap.size u3).drew).trans (hb1.mono ((Below.refl u3.heap.size u3).drew).size)).size)).trans (hb3.mono ((((Below.refl u3.heap.size u3).drew).trans (hb1.mono ((Below.refl u3.heap.size u3).drew).size)).trans (hb2.mono (((Below.refl u3.heap.size u3).drew).trans (hb1.mono ((Below.refl u3.heap.size u3).drew).size)).size)).size)).mono HZ3.out.l.size)) (fun hHeld => ?_)
            try simp only [Act.put, List.setIfInBounds_toArray, List.set_cons_zero, List.set_cons_succ, List.getElem_toArray, List.getElem_cons_succ, List.getElem_cons_zero]
            refine take_at (some 97) (i := 20) (v := ?_) rfl rfl (by kernel_rfl) (by kernel_rfl) (by kernel_rfl) (fun _ _ _ h => h) (Or.inl ⟨by kernel_rfl, ?_⟩) hHeld ?_
            rotate_left
            · intro wz hSw; go_simp; try (with_reducible rfl)
            try simp only [Act.put, List.setIfInBounds_toArray, List.set_cons_zero, List.set_cons_succ, List.getElem_toArray, List.getElem_cons_succ, List.getElem_cons_zero]
            refine take_at (some 98) (i := 21) (v := ?_) rfl rfl (by kernel_rfl) (by kernel_rfl) (by kernel_rfl) (fun _ _ _ h => h) (Or.inl ⟨by kernel_rfl, ?_⟩) hHeld ?_
            rotate_left
            · intro wz hSw; go_simp; try (with_reducible rfl)
            try simp only [Act.put, List.setIfInBounds_toArray, List.set_cons_zero, List.set_cons_succ, List.getElem_toArray, List.getElem_cons_succ, List.getElem_cons_zero]
            refine take_at (some 99) (i := 22) (v := ?_) rfl rfl (by kernel_rfl) (by kernel_rfl) (by kernel_rfl) (fun _ _ _ h => h) (Or.inl ⟨by kernel_rfl, ?_⟩) hHeld ?_
            rotate_left
            · intro wz hSw; go_simp; try (with_reducible rfl)
            try simp only [Act.put, List.setIfInBounds_toArray, List.set_cons_zero, List.set_cons_succ, List.getElem_toArray, List.getElem_cons_succ, List.getElem_cons_zero]
            refine take_at (some 100) (i := 23) (v := ?_) rfl rfl (by kernel_rfl) (by kernel_rfl) (by kernel_rfl) (fun _ _ _ h => h) (Or.inl ⟨by kernel_rfl, ?_⟩) hHeld ?_
            rotate_left
            · intro wz hSw; go_simp; try (with_reducible rfl)
            try simp only [Act.put, List.setIfInBounds_toArray, List.set_cons_zero, List.set_cons_succ, List.getElem_toArray, List.getElem_cons_succ, List.getElem_cons_zero]
            refine take_at (some 101) (i := 24) (v := ?_) rfl rfl (by kernel_rfl) (by kernel_rfl) (by kernel_rfl) (fun _ _ _ h => h) (Or.inl ⟨by kernel_rfl, ?_⟩) hHeld ?_
            rotate_left
            · intro wz hSw; go_simp; try (with_reducible rfl)
            try simp only [Act.put, List.setIfInBounds_toArray, List.set_cons_zero, List.set_cons_succ, List.getElem_toArray, List.getElem_cons_succ, List.getElem_cons_zero]
            refine take_at (some 102) (i := 25) (v := ?_) rfl rfl (by kernel_rfl) (by kernel_rfl) (by kernel_rfl) (fun _ _ _ h => h) (Or.inl ⟨by kernel_rfl, ?_⟩) hHeld ?_
            rotate_left
            · intro wz hSw; go_simp; try (with_reducible rfl)
            try simp only [Act.put, List.setIfInBounds_toArray, List.set_cons_zero, List.set_cons_succ, List.getElem_toArray, List.getElem_cons_succ, List.getElem_cons_zero]
            refine take_at (some 103) (i := 26) (v := ?_) rfl rfl (by kernel_rfl) (by kernel_rfl) (by kernel_rfl) (fun _ _ _ h => h) (Or.inl ⟨by kernel_rfl, ?_⟩) hHeld ?_
            rotate_left
            · intro wz hSw; go_simp; try (with_reducible rfl)
            try simp only [Act.put, List.setIfInBounds_toArray, List.set_cons_zero, List.set_cons_succ, List.getElem_toArray, List.getElem_cons_succ, List.getElem_cons_zero]
            refine take_at (some 104) (i := 27) (v := ?_) rfl rfl (by kernel_rfl) (by kernel_rfl) (by kernel_rfl) (fun _ _ _ h => h) (Or.inl ⟨by kernel_rfl, ?_⟩) hHeld ?_
            rotate_left
            · intro wz hSw; go_simp; try (with_reducible rfl)
            try simp only [Act.put, List.setIfInBounds_toArray, List.set_cons_zero, List.set_cons_succ, List.getElem_toArray, List.getElem_cons_succ, List.getElem_cons_zero]
            refine take_at (some 105) (i := 28) (v := ?_) rfl rfl (by kernel_rfl) (by kernel_rfl) (by kernel_rfl) (fun _ _ _ h => h) (Or.inl ⟨by kernel_rfl, ?_⟩) hHeld ?_
            rotate_left
            · intro wz hSw; obtain ⟨x0, x1, x2⟩ := HC.out wz hSw; go_simp; try (with_reducible rfl)
            try simp only [Act.put, List.setIfInBounds_toArray, List.set_cons_zero, List.set_cons_succ, List.getElem_toArray, List.getElem_cons_succ, List.getElem_cons_zero]
            refine take_at (some 107) (i := 30) (v := ?_) rfl rfl (by kernel_rfl) (by kernel_rfl) (by kernel_rfl) (fun _ _ _ h => h) (Or.inl ⟨by kernel_rfl, ?_⟩) hHeld ?_
            rotate_left
            · intro wz hSw; go_simp; try (with_reducible rfl)
            try simp only [Act.put, List.setIfInBounds_toArray, List.set_cons_zero, List.set_cons_succ, List.getElem_toArray, List.getElem_cons_succ, List.getElem_cons_zero]
            refine take_at (some 108) (i := 31) (v := ?_) rfl rfl (by kernel_rfl) (by kernel_rfl) (by kernel_rfl) (fun _ _ _ h => h) (Or.inl ⟨by kernel_rfl, ?_⟩) hHeld ?_
            rotate_left
            · intro wz hSw; go_simp; try (with_reducible rfl)
            try simp only [Act.put, List.setIfInBounds_toArray, List.set_cons_zero, List.set_cons_succ, List.getElem_toArray, List.getElem_cons_succ, List.getElem_cons_zero]
            refine take_at (some 109) (i := 32) (v := ?_) rfl rfl (by kernel_rfl) (by kernel_rfl) (by kernel_rfl) (fun _ _ _ h => h) (Or.inl ⟨by kernel_rfl, ?_⟩) hHeld ?_
            rotate_left
            · intro wz hSw; go_simp; try (with_reducible rfl)
            try simp only [Act.put, List.setIfInBounds_toArray, List.set_cons_zero, List.set_cons_succ, List.getElem_toArray, List.getElem_cons_succ, List.getElem_cons_zero]
            refine take_at (some 110) (i := 33) (v := ?_) rfl rfl (by kernel_rfl) (by kernel_rfl) (by kernel_rfl) (fun _ _ _ h => h) (Or.inl ⟨by kernel_rfl, ?_⟩) hHeld ?_
            rotate_left
            · intro wz hSw; go_simp; try (with_reducible rfl)
            try simp only [Act.put, List.setIfInBounds_toArray, List.set_cons_zero, List.set_cons_succ, List.getElem_toArray, List.getElem_cons_succ, List.getElem_cons_zero]
            refine take_at (some 111) (i := 34) (v := ?_) rfl rfl (by kernel_rfl) (by kernel_rfl) (by kernel_rfl) (fun _ _ _ h => h) (Or.inl ⟨by kernel_rfl, ?_⟩) hHeld ?_
            rotate_left
            · intro wz hSw; go_simp; try (with_reducible rfl)
            try simp only [Act.put, List.setIfInBounds_toArray, List.set_cons_zero, List.set_cons_succ, List.getElem_toArray, List.getElem_cons_succ, List.getElem_cons_zero]
            refine take_at (some 112) (i := 35) (v := ?_) rfl rfl (by kernel_rfl) (by kernel_rfl) (by kernel_rfl) (fun _ _ _ h => h) (Or.inl ⟨by kernel_rfl, ?_⟩) hHeld ?_
            rotate_left
            · intro wz hSw; obtain ⟨x0, x1, x2⟩ := HC.out wz hSw; go_simp; try (with_reducible rfl)
            try simp only [Act.put, List.setIfInBounds_toArray, List.set_cons_zero, List.set_cons_succ, List.getElem_toArray, List.getElem_cons_succ, List.getElem_cons_zero]
            refine wpAnyH_ready (rs := [29]) (by kernel_rfl) (by simp) (AllReadyH.cons rfl (fun K hK => ?_) AllReadyH.nil)
            rw [if_pos (by kernel_rfl)]
            go_simp
            refine (z_was (HZ3.out.on (((((Below.refl u3.heap.size u3).drew).trans (hb1.mono ((Below.refl u3.heap.size u3).drew).size)).trans (hb2.mono (((Below.refl u3.heap.size u3).drew).trans (hb1.mono ((Below.refl u3.heap.size u3).drew).size)).size)).trans (hb3.mono ((((Below.refl u3.heap.size u3).drew).trans (hb1.mono ((Below.refl u3.heap.size u3).drew).size)).trans (hb2.mono (((Below.refl u3.heap.size u3).drew).trans (hb1.mono ((Below.refl u3.heap.size u3).drew).size)).size)).size))) HE2.out.2.2.2.2 HF2.out ob r2 HRR.out.2).mono ?_
            rintro e y4 ⟨rfl, hb4⟩
            try dsimp only
            refine hK.out _ _ (HZ3.out.l.trans (((((((Below.refl u3.heap.size u3).drew).trans (hb1.mono ((Below.refl u3.heap.size u3).drew).size)).trans (hb2.mono (((Below.refl u3.heap.size u3).drew).trans (hb1.mono ((Below.refl u3.heap.size u3).drew).size)).size)).trans (hb3.mono ((((Below.refl u3.heap.size u3).drew).trans (hb1.mono ((Below.refl u3.heap.size u3).drew).size)).trans (hb2.mono (((Below.refl u3.heap.size u3).drew).trans (hb1.mono ((Below.refl u3.heap.size u3).drew).size)).size)).size)).trans (hb4.mono (((((Below.refl u3.heap.size u3).drew).trans (hb1.mono ((Below.refl u3.heap.size u3).drew).size)).trans (hb2.mono (((Below.refl u3.heap.size u3).drew).trans (hb1.mono ((Below.refl u3.heap.size u3).drew).size)).size)).trans (hb3.mono ((((Below.refl u3.heap.size u3).drew).trans (hb1.mono ((Below.refl u3.heap.size u3).drew).size)).trans (hb2.mono (((Below.refl u3.heap.size u3).drew).trans (hb1.mono ((Below.refl u3.heap.size u3).drew).size)).size)).size)).size)).mono HZ3.out.l.size)) (fun hHeld => ?_)
            try simp only [Act.put, List.setIfInBounds_toArray, List.set_cons_zero, List.set_cons_succ, List.getElem_toArray, List.getElem_cons_succ, List.getElem_cons_zero]
            refine wpAnyH_ready (rs := [36]) (by kernel_rfl) (by simp) (AllReadyH.cons rfl (fun K hK => ?_) AllReadyH.nil)
            rw [if_pos (by kernel_rfl)]
            go_simp
            refine (phas_ok (A5) t2.ev (m) (c5) y4 ob (Ow.rw_ (fun _ => rfl) (HX3.out.on ((((((Below.refl u3.heap.size u3).drew).trans (hb1.mono ((Below.refl u3.heap.size u3).drew).size)).trans (hb2.mono (((Below.refl u3.heap.size u3).drew).trans (hb1.mono ((Below.refl u3.heap.size u3).drew).size)).size)).trans (hb3.mono ((((Below.refl u3.heap.size u3).drew).trans (hb1.mono ((Below.refl u3.heap.size u3).drew).size)).trans (hb2.mono (((Below.refl u3.heap.size u3).drew).trans (hb1.mono ((Below.refl u3.heap.size u3).drew).size)).size)).size)).trans (hb4.mono (((((Below.refl u3.heap.size u3).drew).trans (hb1.mono ((Below.refl u3.heap.size u3).drew).size)).trans (hb2.mono (((Below.refl u3.heap.size u3).drew).trans (hb1.mono ((Below.refl u3.heap.size u3).drew).size)).size)).trans (hb3.mono ((((Below.refl u3.heap.size u3).drew).trans (hb1.mono ((Below.refl u3.heap.size u3).drew).size)).trans (hb2.mono (((Below.refl u3.heap.size u3).drew).trans (hb1.mono ((Below.refl u3.heap.size u3).drew).size)).size)).size)).size))).o) HE2.out.1 hm8 r2 HRR.out.2).mono ?_
            rintro e y5 ⟨rfl, hb5⟩
            try dsimp only
            refine hK.out _ _ (HZ3.out.l.trans ((((((((Below.refl u3.heap.size u3).drew).trans (hb1.mono ((Below.refl u3.heap.size u3).drew).size)).trans (hb2.mono (((Below.refl u3.heap.size u3).drew).trans (hb1.mono ((Below.refl u3.heap.size u3).drew).size)).size)).trans (hb3.mono ((((Below.refl u3.heap.size u3).drew).trans (hb1.mono ((Below.refl u3.heap.size u3).drew).size)).trans (hb2.mono (((Below.refl u3.heap.size u3).drew).trans (hb1.mono ((Below.refl u3.heap.size u3).drew).size)).size)).size)).trans (hb4.mono (((((Below.refl u3.heap.size u3).drew).trans (hb1.mono ((Below.refl u3.heap.size u3).drew).size)).trans (hb2.mono (((Below.refl u3.heap.size u3).drew).trans (hb1.mono ((Below.refl u3.heap.size u3).drew).size)).size)).trans (hb3.mono ((((Below.refl u3.heap.size u3).drew).trans (hb1.mono ((Below.refl u3.heap.size u3).drew).size)).trans (hb2.mono (((Below.refl u3.heap.size u3).drew).trans (hb1.mono ((Below.refl u3.heap.size u3).drew).size)).size)).size)).size)).trans (hb5.mono ((((((Below.refl u3.heap.size u3).drew).trans (hb1.mono ((Below.refl u3.heap.size u3).drew).size)).trans (hb2.mono (((Below.refl u3.heap.size u3).drew).trans (hb1.mono ((Below.refl u3.heap.size u3).drew).size)).size)).trans (hb3.mono ((((Below.refl u3.heap.size u3).drew).trans (hb1.mono ((Below.refl u3.heap.size u3).drew).size)).trans (hb2.mono (((Below.refl u3.heap.size u3).drew).trans (hb1.mono ((Below.refl u3.heap.size u3).drew).size)).size)).size)).trans (hb4.mono (((((Below.refl u3.heap.size u3).drew).trans (hb1.mono ((Below.refl u3.heap.size u3).drew).size)).trans (hb2.mono (((Below.refl u3.heap.size u3).drew).trans (hb1.mono ((Below.refl u3.heap.size u3).drew).size)).size)).trans (hb3.mono ((((Below.refl u3.heap.size u3).drew).trans (hb1.mono ((Below.refl u3.heap.size u3).drew).size)).trans (hb2.mono (((Below.refl u3.heap.size u3).drew).trans (hb1.mono ((Below.refl u3.heap.size u3).drew).size)).size)).size)).size)).size)).mono HZ3.out.l.size)) (fun hHeld => ?_)
            try simp only [Act.put, List.setIfInBounds_toArray, List.set_cons_zero, List.set_cons_succ, List.getElem_toArray, List.getElem_cons_succ, List.getElem_cons_zero]
            refine take_at (some 114) (i := 37) (v := ?_) rfl rfl (by kernel_rfl) (by kernel_rfl) (by kernel_rfl) (fun _ _ _ h => h) (Or.inl ⟨by kernel_rfl, ?_⟩) hHeld ?_
            rotate_left
            · intro wz hSw; go_simp; try (with_reducible rfl)
            try simp only [Act.put, List.setIfInBounds_toArray, List.set_cons_zero, List.set_cons_succ, List.getElem_toArray, List.getElem_cons_succ, List.getElem_cons_zero]
            refine take_at (some 115) (i := 38) (v := ?_) rfl rfl (by kernel_rfl) (by kernel_rfl) (by kernel_rfl) (fun _ _ _ h => h) (Or.inl ⟨by kernel_rfl, ?_⟩) hHeld ?_
            rotate_left
            · intro wz hSw; go_simp; try (with_reducible rfl)
            try simp only [Act.put, List.setIfInBounds_toArray, List.set_cons_zero, List.set_cons_succ, List.getElem_toArray, List.getElem_cons_succ, List.getElem_cons_zero]
            refine wpAnyH_done (by kernel_rfl) ?_ _
            have hbb := (((((((Below.refl u3.heap.size u3).drew).trans (hb1.mono ((Below.refl u3.heap.size u3).drew).size)).trans (hb2.mono (((Below.refl u3.heap.size u3).drew).trans (hb1.mono ((Below.refl u3.heap.size u3).drew).size)).size)).trans (hb3.mono ((((Below.refl u3.heap.size u3).drew).trans (hb1.mono ((Below.refl u3.heap.size u3).drew).size)).trans (hb2.mono (((Below.refl u3.heap.size u3).drew).trans (hb1.mono ((Below.refl u3.heap.size u3).drew).size)).size)).size)).trans (hb4.mono (((((Below.refl u3.heap.size u3).drew).trans (hb1.mono ((Below.refl u3.heap.size u3).drew).size)).trans (hb2.mono (((Below.refl u3.heap.size u3).drew).trans (hb1.mono ((Below.refl u3.heap.size u3).drew).size)).size)).trans (hb3.mono ((((Below.refl u3.heap.size u3).drew).trans (hb1.mono ((Below.refl u3.heap.size u3).drew).size)).trans (hb2.mono (((Below.refl u3.heap.size u3).drew).trans (hb1.mono ((Below.refl u3.heap.size u3).drew).size)).size)).size)).size)).trans (hb5.mono ((((((Below.refl u3.heap.size u3).drew).trans (hb1.mono ((Below.refl u3.heap.size u3).drew).size)).trans (hb2.mono (((Below.refl u3.heap.size u3).drew).trans (hb1.mono ((Below.refl u3.heap.size u3).drew).size)).size)).trans (hb3.mono ((((Below.refl u3.heap.size u3).drew).trans (hb1.mono ((Below.refl u3.heap.size u3).drew).size)).trans (hb2.mono (((Below.refl u3.heap.size u3).drew).trans (hb1.mono ((Below.refl u3.heap.size u3).drew).size)).size)).size)).trans (hb4.mono (((((Below.refl u3.heap.size u3).drew).trans (hb1.mono ((Below.refl u3.heap.size u3).drew).size)).trans (hb2.mono (((Below.refl u3.heap.size u3).drew).trans (hb1.mono ((Below.refl u3.heap.size u3).drew).size)).size)).trans (hb3.mono ((((Below.refl u3.heap.size u3).drew).trans (hb1.mono ((Below.refl u3.heap.size u3).drew).size)).trans (hb2.mono (((Below.refl u3.heap.size u3).drew).trans (hb1.mono ((Below.refl u3.heap.size u3).drew).size)).size)).size)).size)).size))
            have HZ9 := Lib.hid (HZ3.out.on hbb)
            have HX9 := Lib.hid (HX3.out.on hbb)
            clear hb1 hb2 hb3 hb4 hb5 hbb hHeld ho1
            go_wp2_with fail
            go_roundw
            case rel => exact ⟨i + 1, m, k2, t2, _, A5, c5, by omega, rfl, rfl, by go_num, HZ9, HX9, HE2⟩
            case measure => simp [intOf] <;> omega
          | false =>
            have HE2 := Lib.hid (show t2.ev.length = m ∧ t2.l.length = k ∧ m ≤ 2 * (i + 1) ∧ k ≤ i + 1 ∧ Gp t2 from ⟨by rw [HEV.out]; exact HE.out.1, by rw [if_neg (by simp)] at hlen; omega, by omega, by omega, HG2.out⟩)
            clear hlen
            go_upto_region 17 with fail
            obtain ⟨r1, hr1⟩ : ∃ r, decide (oa ∈ t2.ev) = r := ⟨_, rfl⟩
            obtain ⟨r2, hr2⟩ : ∃ r, decide (ob ∈ t2.ev) = r := ⟨_, rfl⟩
            have HRR := Lib.hid (And.intro hr1 hr2)
            have hq1 : (r1 != r1) = false := by simp
            have hq2 : (r2 != r2) = false := by simp
            have hkk : (((k : Nat) : Int) != ((k : Nat) : Int)) = false := by simp
            clear hr1 hr2
            have HF2 := Lib.hid (show t2.l.length ≤ 1000 ∧ t2.ev.length ≤ 2000 from ⟨by have := HE2.out.2.1; have := HE2.out.2.2.2.1; omega, by have := HE2.out.1; have := HE2.out.2.2.1; omega⟩)
            have hm8 : m ≤ 1000000 := by have := HE2.out.2.2.1; omega
            try simp only [List.cons_append, List.nil_append]
            refine wp_region_held_drew (S := fun wz => Below W.heap.size W wz) (by kernel_rfl) (HZ3.out.l.trans (((Below.refl u3.heap.size u3).drew).mono HZ3.out.l.size)) (fun hHeld => ?_)
            refine take_at (some 77) (i := 0) (v := ?_) rfl rfl (by kernel_rfl) (by kernel_rfl) (by kernel_rfl) (fun _ _ _ h => h) (Or.inl ⟨by kernel_rfl, ?_⟩) hHeld ?_
            rotate_left
            · intro wz hSw; go_simp; try (with_reducible rfl)
            try simp only [Act.put, List.setIfInBounds_toArray, List.set_cons_zero, List.set_cons_succ, List.getElem_toArray, List.getElem_cons_succ, List.getElem_cons_zero]
            refine take_at (some 80) (i := 3) (v := ?_) rfl rfl (by kernel_rfl) (by kernel_rfl) (by kernel_rfl) (fun _ _ _ h => h) (Or.inl ⟨by kernel_rfl, ?_⟩) hHeld ?_
            rotate_left
            · intro wz hSw; go_simp; try (with_reducible rfl)
            try simp only [Act.put, List.setIfInBounds_toArray, List.set_cons_zero, List.set_cons_succ, List.getElem_toArray, List.getElem_cons_succ, List.getElem_cons_zero]
            refine wpAnyH_ready (rs := [1]) (by kernel_rfl) (by simp) (AllReadyH.cons rfl (fun K hK => ?_) AllReadyH.nil)
            rw [if_pos (by kernel_rfl)]
            go_simp
            refine (z_all (HZ3.out.on ((Below.refl u3.heap.size u3).drew)) HE2.out.2.2.2.2 HF2.out (k) HE2.out.2.1).mono ?_
            rintro e y1 ⟨A8, c8, rfl, ho1, hb1⟩
            try dsimp only
            refine hK.out _ _ (HZ3.out.l.trans ((((Below.refl u3.heap.size u3).drew).trans (hb1.mono ((Below.refl u3.heap.size u3).drew).size)).mono HZ3.out.l.size)) (fun hHeld => ?_)
            try simp only [Act.put, List.setIfInBounds_toArray, List.set_cons_zero, List.set_cons_succ, List.getElem_toArray, List.getElem_cons_succ, List.getElem_cons_zero]
            refine take_at (some 79) (i := 2) (v := ?_) rfl rfl (by kernel_rfl) (by kernel_rfl) (by kernel_rfl) (fun _ _ _ h => h) (Or.inl ⟨by kernel_rfl, ?_⟩) hHeld ?_
            rotate_left
            · intro wz hSw; go_simp; try (with_reducible rfl)
            try simp only [Act.put, List.setIfInBounds_toArray, List.set_cons_zero, List.set_cons_succ, List.getElem_toArray, List.getElem_cons_succ, List.getElem_cons_zero]
            refine take_at (some 81) (i := 4) (v := ?_) rfl rfl (by kernel_rfl) (by kernel_rfl) (by kernel_rfl) (fun _ _ _ h => h) (Or.inl ⟨by kernel_rfl, ?_⟩) hHeld ?_
            rotate_left
            · intro wz hSw; go_simp; try (with_reducible rfl)
            try simp only [Act.put, List.setIfInBounds_toArray, List.set_cons_zero, List.set_cons_succ, List.getElem_toArray, List.getElem_cons_succ, List.getElem_cons_zero]
            refine take_at (some 82) (i := 5) (v := ?_) rfl rfl (by kernel_rfl) (by kernel_rfl) (by kernel_rfl) (fun _ _ _ h => h) (Or.inl ⟨by kernel_rfl, ?_⟩) hHeld ?_
            rotate_left
            · intro wz hSw; go_simp; try (with_reducible rfl)
            try simp only [Act.put, List.setIfInBounds_toArray, List.set_cons_zero, List.set_cons_succ, List.getElem_toArray, List.getElem_cons_succ, List.getElem_cons_zero]
            refine take_at (some 83) (i := 6) (v := ?_) rfl rfl (by kernel_rfl) (by kernel_rfl) (by kernel_rfl) (fun _ _ _ h => h) (Or.inl ⟨by kernel_rfl, ?_⟩) hHeld ?_
            rotate_left
            · intro wz hSw; go_simp; try (with_reducible rfl)
            try simp only [Act.put, List.setIfInBounds_toArray, List.set_cons_zero, List.set_cons_succ, List.getElem_toArray, List.getElem_cons_succ, List.getElem_cons_zero]
            refine take_at (some 84) (i := 7) (v := ?_) rfl rfl (by kernel_rfl) (by kernel_rfl) (by kernel_rfl) (fun _ _ _ h => h) (Or.inl ⟨by kernel_rfl, ?_⟩) hHeld ?_
            rotate_left
            · intro wz hSw; go_simp; try (with_reducible rfl)
            try simp only [Act.put, List.setIfInBounds_toArray, List.set_cons_zero, List.set_cons_succ, List.getElem_toArray, List.getElem_cons_succ, List.getElem_cons_zero]
            refine take_at (some 85) (i := 8) (v := ?_) rfl rfl (by kernel_rfl) (by kernel_rfl) (by kernel_rfl) (fun _ _ _ h => h) (Or.inl ⟨by kernel_rfl, ?_⟩) hHeld ?_
            rotate_left
            · intro wz hSw; go_simp; try (with_reducible rfl)
            try simp only [Act.put, List.setIfInBounds_toArray, List.set_cons_zero, List.set_cons_succ, List.getElem_toArray, List.getElem_cons_succ, List.getElem_cons_zero]
            refine take_at (some 86) (i := 9) (v := ?_) rfl rfl (by kernel_rfl) (by kernel_rfl) (by kernel_rfl) (fun _ _ _ h => h) (Or.inl ⟨by kernel_rfl, ?_⟩) hHeld ?_
            rotate_left
            · intro wz hSw; go_simp; try (with_reducible rfl)
            try simp only [Act.put, List.setIfInBounds_toArray, List.set_cons_zero, List.set_cons_succ, List.getElem_toArray, List.getElem_cons_succ, List.getElem_cons_zero]
            refine take_at (some 87) (i := 10) (v := ?_) rfl rfl (by kernel_rfl) (by kernel_rfl) (by kernel_rfl) (fun _ _ _ h => h) (Or.inl ⟨by kernel_rfl, ?_⟩) hHeld ?_
            rotate_left
            · intro wz hSw; go_simp; try (with_reducible rfl)
            try simp only [Act.put, List.setIfInBounds_toArray, List.set_cons_zero, List.set_cons_succ, List.getElem_toArray, List.getElem_cons_succ, List.getElem_cons_zero]
            refine take_at (some 88) (i := 11) (v := ?_) rfl rfl (by kernel_rfl) (by kernel_rfl) (by kernel_rfl) (fun _ _ _ h => h) (Or.inl ⟨by kernel_rfl, ?_⟩) hHeld ?_
            rotate_left
            · intro wz hSw; obtain ⟨x0, x1, x2⟩ := HC.out wz hSw; go_simp; try (with_reducible rfl)
            try simp only [Act.put, List.setIfInBounds_toArray, List.set_cons_zero, List.set_cons_succ, List.getElem_toArray, List.getElem_cons_succ, List.getElem_cons_zero]
            refine take_at (some 90) (i := 13) (v := ?_) rfl rfl (by kernel_rfl) (by kernel_rfl) (by kernel_rfl) (fun _ _ _ h => h) (Or.inl ⟨by kernel_rfl, ?_⟩) hHeld ?_
            rotate_left
            · intro wz hSw; go_simp; try (with_reducible rfl)
            try simp only [Act.put, List.setIfInBounds_toArray, List.set_cons_zero, List.set_cons_succ, List.getElem_toArray, List.getElem_cons_succ, List.getElem_cons_zero]
            refine take_at (some 91) (i := 14) (v := ?_) rfl rfl (by kernel_rfl) (by kernel_rfl) (by kernel_rfl) (fun _ _ _ h => h) (Or.inl ⟨by kernel_rfl, ?_⟩) hHeld ?_
            rotate_left
            · intro wz hSw; go_simp; try (with_reducible rfl)
            try simp only [Act.put, List.setIfInBounds_toArray, List.set_cons_zero, List.set_cons_succ, List.getElem_toArray, List.getElem_cons_succ, List.getElem_cons_zero]
            refine take_at (some 92) (i := 15) (v := ?_) rfl rfl (by kernel_rfl) (by kernel_rfl) (by kernel_rfl) (fun _ _ _ h => h) (Or.inl ⟨by kernel_rfl, ?_⟩) hHeld ?_
            rotate_left
            · intro wz hSw; go_simp; try (with_reducible rfl)
            try simp only [Act.put, List.setIfInBounds_toArray, List.set_cons_zero, List.set_cons_succ, List.getElem_toArray, List.getElem_cons_succ, List.getElem_cons_zero]
            refine take_at (some 93) (i := 16) (v := ?_) rfl rfl (by kernel_rfl) (by kernel_rfl) (by kernel_rfl) (fun _ _ _ h => h) (Or.inl ⟨by kernel_rfl, ?_⟩) hHeld ?_
            rotate_left
            · intro wz hSw; go_simp; try (with_reducible rfl)
            try simp only [Act.put, List.setIfInBounds_toArray, List.set_cons_zero, List.set_cons_succ, List.getElem_toArray, List.getElem_cons_succ, List.getElem_cons_zero]
            refine take_at (some 94) (i := 17) (v := ?_) rfl rfl (by kernel_rfl) (by kernel_rfl) (by kernel_rfl) (fun _ _ _ h => h) (Or.inl ⟨by kernel_rfl, ?_⟩) hHeld ?_
            rotate_left
            · intro wz hSw; go_simp; try (with_reducible rfl)
            try simp only [Act.put, List.setIfInBounds_toArray, List.set_cons_zero, List.set_cons_succ, List.getElem_toArray, List.getElem_cons_succ, List.getElem_cons_zero]
            refine take_at (some 95) (i := 18) (v := ?_) rfl rfl (by kernel_rfl) (by kernel_rfl) (by kernel_rfl) (fun _ _ _ h => h) (Or.inl ⟨by kernel_rfl, ?_⟩) hHeld ?_
            rotate_left
            · intro wz hSw; obtain ⟨x0, x1, x2⟩ := HC.out wz hSw; go_simp; try (with_reducible rfl)
            try simp only [Act.put, List.setIfInBounds_toArray, List.set_cons_zero, List.set_cons_succ, List.getElem_toArray, List.getElem_cons_succ, List.getElem_cons_zero]
            refine wpAnyH_ready (rs := [12]) (by kernel_rfl) (by simp) (AllReadyH.cons rfl (fun K hK => ?_) AllReadyH.nil)
            rw [if_pos (by kernel_rfl)]
            go_simp
            refine (z_was (HZ3.out.on (((Below.refl u3.heap.size u3).drew).trans (hb1.mono ((Below.refl u3.heap.size u3).drew).size))) HE2.out.2.2.2.2 HF2.out oa r1 HRR.out.1).mono ?_
            rintro e y2 ⟨rfl, hb2⟩
            try dsimp only
            refine hK.out _ _ (HZ3.out.l.trans (((((Below.refl u3.heap.size u3).drew).trans (hb1.mono ((Below.refl u3.heap.size u3).drew).size)).trans (hb2.mono (((Below.refl u3.heap.size u3).drew).trans (hb1.mono ((Below.refl u3.heap.size u3).drew).size)).size)).mono HZ3.out.l.size)) (fun hHeld => ?_)
            try simp only [Act.put, List.setIfInBounds_toArray, List.set_cons_zero, List.set_cons_succ, List.getElem_toArray, List.getElem_cons_succ, List.getElem_cons_zero]
            refine wpAnyH_ready (rs := [19]) (by kernel_rfl) (by simp) (AllReadyH.cons rfl (fun K hK => ?_) AllReadyH.nil)
            rw [if_pos (by kernel_rfl)]
            go_simp
            refine (phas_ok (A5) t2.ev (m) (c5) y2 oa (Ow.rw_ (fun _ => rfl) (HX3.out.on ((((Below.refl u3.heap.size u3).drew).trans (hb1.mono ((Below.refl u3.heap.size u3).drew).size)).trans (hb2.mono (((Below.refl u3.heap.size u3).drew).trans (hb1.mono ((Below.refl u3.heap.size u3).drew).size)).size))).o) HE2.out.1 hm8 r1 HRR.out.1).mono ?_
            rintro e y3 ⟨rfl, hb3⟩
            try dsimp only
            refine hK.out _ _ (HZ3.out.l.trans ((((((Below.refl u3.heap.size u3).drew).trans (hb1.mono ((Below.refl u3.heap.size u3).drew).size)).trans (hb2.mono (((Below.refl u3.heap.size u3).drew).trans (hb1.mono ((Below.refl u3.heap.size u3).drew).size)).size)).trans (hb3.mono ((((Below.refl u3.heap.size u3).drew).trans (hb1.mono ((Below.refl u3.heap.size u3).drew).size)).trans (hb2.mono (((Below.refl u3.heap.size u3).drew).trans (hb1.mono ((Below.refl u3.heap.size u3).drew).size)).size)).size)).mono HZ3.out.l.size)) (fun hHeld => ?_)
            try simp only [Act.put, List.setIfInBounds_toArray, List.set_cons_zero, List.set_cons_succ, List.getElem_toArray, List.getElem_cons_succ, List.getElem_cons_zero]
            refine take_at (some 97) (i := 20) (v := ?_) rfl rfl (by kernel_rfl) (by kernel_rfl) (by kernel_rfl) (fun _ _ _ h => h) (Or.inl ⟨by kernel_rfl, ?_⟩) hHeld ?_
            rotate_left
            · intro wz hSw; go_simp; try (with_reducible rfl)
            try simp only [Act.put, List.setIfInBounds_toArray, List.set_cons_zero, List.set_cons_succ, List.getElem_toArray, List.getElem_cons_succ, List.getElem_cons_zero]
            refine take_at (some 98) (i := 21) (v := ?_) rfl rfl (by kernel_rfl) (by kernel_rfl) (by kernel_rfl) (fun _ _ _ h => h) (Or.inl ⟨by kernel_rfl, ?_⟩) hHeld ?_
            rotate_left
            · intro wz hSw; go_simp; try (with_reducible rfl)
            try simp only [Act.put, List.setIfInBounds_toArray, List.set_cons_zero, List.set_cons_succ, List.getElem_toArray, List.getElem_cons_succ, List.getElem_cons_zero]
            refine take_at (some 99) (i := 22) (v := ?_) rfl rfl (by kernel_rfl) (by kernel_rfl) (by kernel_rfl) (fun _ _ _ h => h) (Or.inl ⟨by kernel_rfl, ?_⟩) hHeld ?_
            rotate_left
            · intro wz hSw; go_simp; try (with_reducible rfl)
            try simp only [Act.put, List.setIfInBounds_toArray, List.set_cons_zero, List.set_cons_succ, List.getElem_toArray, List.getElem_cons_succ, List.getElem_cons_zero]
            refine take_at (some 100) (i := 23) (v := ?_) rfl rfl (by kernel_rfl) (by kernel_rfl) (by kernel_rfl) (fun _ _ _ h => h) (Or.inl ⟨by kernel_rfl, ?_⟩) hHeld ?_
            rotate_left
            · intro wz hSw; go_simp; try (with_reducible rfl)
            try simp only [Act.put, List.setIfInBounds_toArray, List.set_cons_zero, List.set_cons_succ, List.getElem_toArray, List.getElem_cons_succ, List.getElem_cons_zero]
            refine take_at (some 101) (i := 24) (v := ?_) rfl rfl (by kernel_rfl) (by kernel_rfl) (by kernel_rfl) (fun _ _ _ h => h) (Or.inl ⟨by kernel_rfl, ?_⟩) hHeld ?_
            rotate_left
            · intro wz hSw; go_simp; try (with_reducible rfl)
            try simp only [Act.put, List.setIfInBounds_toArray, List.set_cons_zero, List.set_cons_succ, List.getElem_toArray, List.getElem_cons_succ, List.getElem_cons_zero]
            refine take_at (some 102) (i := 25) (v := ?_) rfl rfl (by kernel_rfl) (by kernel_rfl) (by kernel_rfl) (fun _ _ _ h => h) (Or.inl ⟨by kernel_rfl, ?_⟩) hHeld ?_
            rotate_left
            · intro wz hSw; go_simp; try (with_reducible rfl)
            try simp only [Act.put, List.setIfInBounds_toArray, List.set_cons_zero, List.set_cons_succ, List.getElem_toArray, List.getElem_cons_succ, List.getElem_cons_zero]
            refine take_at (some 103) (i := 26) (v := ?_) rfl rfl (by kernel_rfl) (by kernel_rfl) (by kernel_rfl) (fun _ _ _ h => h) (Or.inl ⟨by kernel_rfl, ?_⟩) hHeld ?_
            rotate_left
            · intro wz hSw; go_simp; try (with_reducible rfl)
            try simp only [Act.put, List.setIfInBounds_toArray, List.set_cons_zero, List.set_cons_succ, List.getElem_toArray, List.getElem_cons_succ, List.getElem_cons_zero]
            refine take_at (some 104) (i := 27) (v := ?_) rfl rfl (by kernel_rfl) (by kernel_rfl) (by kernel_rfl) (fun _ _ _ h => h) (Or.inl ⟨by kernel_rfl, ?_⟩) hHeld ?_
            rotate_left
            · intro wz hSw; go_simp; try (with_reducible rfl)
            try simp only [Act.put, List.setIfInBounds_toArray, List.set_cons_zero, List.set_cons_succ, List.getElem_toArray, List.getElem_cons_succ, List.getElem_cons_zero]
            refine take_at (some 105) (i := 28) (v := ?_) rfl rfl (by kernel_rfl) (by kernel_rfl) (by kernel_rfl) (fun _ _ _ h => h) (Or.inl ⟨by kernel_rfl, ?_⟩) hHeld ?_
            rotate_left
            · intro wz hSw; obtain ⟨x0, x1, x2⟩ := HC.out wz hSw; go_simp; try (with_reducible rfl)
            try simp only [Act.put, List.setIfInBounds_toArray, List.set_cons_zero, List.set_cons_succ, List.getElem_toArray, List.getElem_cons_succ, List.getElem_cons_zero]
            refine take_at (some 107) (i := 30) (v := ?_) rfl rfl (by kernel_rfl) (by kernel_rfl) (by kernel_rfl) (fun _ _ _ h => h) (Or.inl ⟨by kernel_rfl, ?_⟩) hHeld ?_
            rotate_left
            · intro wz hSw; go_simp; try (with_reducible rfl)
            try simp only [Act.put, List.setIfInBounds_toArray, List.set_cons_zero, List.set_cons_succ, List.getElem_toArray, List.getElem_cons_succ, List.getElem_cons_zero]
            refine take_at (some 108) (i := 31) (v := ?_) rfl rfl (by kernel_rfl) (by kernel_rfl) (by kernel_rfl) (fun _ _ _ h => h) (Or.inl ⟨by kernel_rfl, ?_⟩) hHeld ?_
            rotate_left
            · intro wz hSw; go_simp; try (with_reducible rfl)
            try simp only [Act.put, List.setIfInBounds_toArray, List.set_cons_zero, List.set_cons_succ, List.getElem_toArray, List.getElem_cons_succ, List.getElem_cons_zero]
            refine take_at (some 109) (i := 32) (v := ?_) rfl rfl (by kernel_rfl) (by kernel_rfl) (by kernel_rfl) (fun _ _ _ h => h) (Or.inl ⟨by kernel_rfl, ?_⟩) hHeld ?_
            rotate_left
            · intro wz hSw; go_simp; try (with_reducible rfl)
            try simp only [Act.put, List.setIfInBounds_toArray, List.set_cons_zero, List.set_cons_succ, List.getElem_toArray, List.getElem_cons_succ, List.getElem_cons_zero]
            refine take_at (some 110) (i := 33) (v := ?_) rfl rfl (by kernel_rfl) (by kernel_rfl) (by kernel_rfl) (fun _ _ _ h => h) (Or.inl ⟨by kernel_rfl, ?_⟩) hHeld ?_
            rotate_left
            · intro wz hSw; go_simp; try (with_reducible rfl)
            try simp only [Act.put, List.setIfInBounds_toArray, List.set_cons_zero, List.set_cons_succ, List.getElem_toArray, List.getElem_cons_succ, List.getElem_cons_zero]
            refine take_at (some 111) (i := 34) (v := ?_) rfl rfl (by kernel_rfl) (by kernel_rfl) (by kernel_rfl) (fun _ _ _ h => h) (Or.inl ⟨by kernel_rfl, ?_⟩) hHeld ?_
            rotate_left
            · intro wz hSw; go_simp; try (with_reducible rfl)
            try simp only [Act.put, List.setIfInBounds_toArray, List.set_cons_zero, List.set_cons_succ, List.getElem_toArray, List.getElem_cons_succ, List.getElem_cons_zero]
            refine take_at (some 112) (i := 35) (v := ?_) rfl rfl (by kernel_rfl) (by kernel_rfl) (by kernel_rfl) (fun _ _ _ h => h) (Or.inl ⟨by kernel_rfl, ?_⟩) hHeld ?_
            rotate_left
            · intro wz hSw; obtain ⟨x0, x1, x2⟩ := HC.out wz hSw; go_simp; try (with_reducible rfl)
            try simp only [Act.put, List.setIfInBounds_toArray, List.set_cons_zero, List.set_cons_succ, List.getElem_toArray, List.getElem_cons_succ, List.getElem_cons_zero]
            refine wpAnyH_ready (rs := [29]) (by kernel_rfl) (by simp) (AllReadyH.cons rfl (fun K hK => ?_) AllReadyH.nil)
            rw [if_pos (by kernel_rfl)]
            go_simp
            refine (z_was (HZ3.out.on (((((Below.refl u3.heap.size u3).drew).trans (hb1.mono ((Below.refl u3.heap.size u3).drew).size)).trans (hb2.mono (((Below.refl u3.heap.size u3).drew).trans (hb1.mono ((Below.refl u3.heap.size u3).drew).size)).size)).trans (hb3.mono ((((Below.refl u3.heap.size u3).drew).trans (hb1.mono ((Below.refl u3.heap.size u3).drew).size)).trans (hb2.mono (((Below.refl u3.heap.size u3).drew).trans (hb1.mono ((Below.refl u3.heap.size u3).drew).size)).size)).size))) HE2.out.2.2.2.2 HF2.out ob r2 HRR.out.2).mono ?_
            rintro e y4 ⟨rfl, hb4⟩
            try dsimp only
            refine hK.out _ _ (HZ3.out.l.trans (((((((Below.refl u3.heap.size u3).drew).trans (hb1.mono ((Below.refl u3.heap.size u3).drew).size)).trans (hb2.mono (((Below.refl u3.heap.size u3).drew).trans (hb1.mono ((Below.refl u3.heap.size u3).drew).size)).size)).trans (hb3.mono ((((Below.refl u3.heap.size u3).drew).trans (hb1.mono ((Below.refl u3.heap.size u3).drew).size)).trans (hb2.mono (((Below.refl u3.heap.size u3).drew).trans (hb1.mono ((Below.refl u3.heap.size u3).drew).size)).size)).size)).trans (hb4.mono (((((Below.refl u3.heap.size u3).drew).trans (hb1.mono ((Below.refl u3.heap.size u3).drew).size)).trans (hb2.mono (((Below.refl u3.heap.size u3).drew).trans (hb1.mono ((Below.refl u3.heap.size u3).drew).size)).size)).trans (hb3.mono ((((Below.refl u3.heap.size u3).drew).trans (hb1.mono ((Below.refl u3.heap.size u3).drew).size)).trans (hb2.mono (((Below.refl u3.heap.size u3).drew).trans (hb1.mono ((Below.refl u3.heap.size u3).drew).size)).size)).size)).size)).mono HZ3.out.l.size)) (fun hHeld => ?_)
            try simp only [Act.put, List.setIfInBounds_toArray, List.set_cons_zero, List.set_cons_succ, List.getElem_toArray, List.getElem_cons_succ, List.getElem_cons_zero]
            refine wpAnyH_ready (rs := [36]) (by kernel_rfl) (by simp) (AllReadyH.cons rfl (fun K hK => ?_) AllReadyH.nil)
            rw [if_pos (by kernel_rfl)]
            go_simp
            refine (phas_ok (A5) t2.ev (m) (c5) y4 ob (Ow.rw_ (fun _ => rfl) (HX3.out.on ((((((Below.refl u3.heap.size u3).drew).trans (hb1.mono ((Below.refl u3.heap.size u3).drew).size)).trans (hb2.mono (((Below.refl u3.heap.size u3).drew).trans (hb1.mono ((Below.refl u3.heap.size u3).drew).size)).size)).trans (hb3.mono ((((Below.refl u3.heap.size u3).drew).trans (hb1.mono ((Below.refl u3.heap.size u3).drew).size)).trans (hb2.mono (((Below.refl u3.heap.size u3).drew).trans (hb1.mono ((Below.refl u3.heap.size u3).drew).size)).size)).size)).trans (hb4.mono (((((Below.refl u3.heap.size u3).drew).trans (hb1.mono ((Below.refl u3.heap.size u3).drew).size)).trans (hb2.mono (((Below.refl u3.heap.size u3).drew).trans (hb1.mono ((Below.refl u3.heap.size u3).drew).size)).size)).trans (hb3.mono ((((Below.refl u3.heap.size u3).drew).trans (hb1.mono ((Below.refl u3.heap.size u3).drew).size)).trans (hb2.mono (((Below.refl u3.heap.size u3).drew).trans (hb1.mono ((Below.refl u3.heap.size u3).drew).size)).size)).size)).size))).o) HE2.out.1 hm8 r2 HRR.out.2).mono ?_
            rintro e y5 ⟨rfl, hb5⟩
            try dsimp only
            refine hK.out _ _ (HZ3.out.l.trans ((((((((Below.refl u3.heap.size u3).drew).trans (hb1.mono ((Below.refl u3.heap.size u3).drew).size)).trans (hb2.mono (((Below.refl u3.heap.size u3).drew).trans (hb1.mono ((Below.refl u3.heap.size u3).drew).size)).size)).trans (hb3.mono ((((Below.refl u3.heap.size u3).drew).trans (hb1.mono ((Below.refl u3.heap.size u3).drew).size)).trans (hb2.mono (((Below.refl u3.heap.size u3).drew).trans (hb1.mono ((Below.refl u3.heap.size u3).drew).size)).size)).size)).trans (hb4.mono (((((Below.refl u3.heap.size u3).drew).trans (hb1.mono ((Below.refl u3.heap.size u3).drew).size)).trans (hb2.mono (((Below.refl u3.heap.size u3).drew).trans (hb1.mono ((Below.refl u3.heap.size u3).drew).size)).size)).trans (hb3.mono ((((Below.refl u3.heap.size u3).drew).trans (hb1.mono ((Below.refl u3.heap.size u3).drew).size)).trans (hb2.mono (((Below.refl u3.heap.size u3).drew).trans (hb1.mono ((Below.refl u3.heap.size u3).drew).size)).size)).size)).size)).trans (hb5.mono ((((((Below.refl u3.heap.size u3).drew).trans (hb1.mono ((Below.refl u3.heap.size u3).drew).size)).trans (hb2.mono (((Below.refl u3.heap.size u3).drew).trans (hb1.mono ((Below.refl u3.heap.size u3).drew).size)).size)).trans (hb3.mono ((((Below.refl u3.heap.size u3).drew).trans (hb1.mono ((Below.refl u3.heap.size u3).drew).size)).trans (hb2.mono (((Below.refl u3.heap.size u3).drew).trans (hb1.mono ((Below.refl u3.heap.size u3).drew).size)).size)).size)).trans (hb4.mono (((((Below.refl u3.heap.size u3).drew).trans (hb1.mono ((Below.refl u3.heap.size u3).drew).size)).trans (hb2.mono (((Below.refl u3.heap.size u3).drew).trans (hb1.mono ((Below.refl u3.heap.size u3).drew).size)).size)).trans (hb3.mono ((((Below.refl u3.heap.size u3).drew).trans (hb1.mono ((Below.refl u3.heap.size u3).drew).size)).trans (hb2.mono (((Below.refl u3.heap.size u3).drew).trans (hb1.mono ((Below.refl u3.heap.size u3).drew).size)).size)).size)).size)).size)).mono HZ3.out.l.size)) (fun hHeld => ?_)
            try simp only [Act.put, List.setIfInBounds_toArray, List.set_cons_zero, List.set_cons_succ, List.getElem_toArray, List.getElem_cons_succ, List.getElem_cons_zero]
            refine take_at (some 114) (i := 37) (v := ?_) rfl rfl (by kernel_rfl) (by kernel_rfl) (by kernel_rfl) (fun _ _ _ h => h) (Or.inl ⟨by kernel_rfl, ?_⟩) hHeld ?_
            rotate_left
            · intro wz hSw; go_simp; try (with_reducible rfl)
            try simp only [Act.put, List.setIfInBounds_toArray, List.set_cons_zero, List.set_cons_succ, List.getElem_toArray, List.getElem_cons_succ, List.getElem_cons_zero]
            refine take_at (some 115) (i := 38) (v := ?_) rfl rfl (by kernel_rfl) (by kernel_rfl) (by kernel_rfl) (fun _ _ _ h => h) (Or.inl ⟨by kernel_rfl, ?_⟩) hHeld ?_
            rotate_left
            · intro wz hSw; go_simp; try (with_reducible rfl)
            try simp only [Act.put, List.setIfInBounds_toArray, List.set_cons_zero, List.set_cons_succ, List.getElem_toArray, List.getElem_cons_succ, List.getElem_cons_zero]
            refine wpAnyH_done (by kernel_rfl) ?_ _
            have hbb := (((((((Below.refl u3.heap.size u3).drew).trans (hb1.mono ((Below.refl u3.heap.size u3).drew).size)).trans (hb2.mono (((Below.refl u3.heap.size u3).drew).trans (hb1.mono ((Below.refl u3.heap.size u3).drew).size)).size)).trans (hb3.mono ((((Below.refl u3.heap.size u3).drew).trans (hb1.mono ((Below.refl u3.heap.size u3).drew).size)).trans (hb2.mono (((Below.refl u3.heap.size u3).drew).trans (hb1.mono ((Below.refl u3.heap.size u3).drew).size)).size)).size)).trans (hb4.mono (((((Below.refl u3.heap.size u3).drew).trans (hb1.mono ((Below.refl u3.heap.size u3).drew).size)).trans (hb2.mono (((Below.refl u3.heap.size u3).drew).trans (hb1.mono ((Below.refl u3.heap.size u3).drew).size)).size)).trans (hb3.mono ((((Below.refl u3.heap.size u3).drew).trans (hb1.mono ((Below.refl u3.heap.size u3).drew).size)).trans (hb2.mono (((Below.refl u3.heap.size u3).drew).trans (hb1.mono ((Below.refl u3.heap.size u3).drew).size)).size)).size)).size)).trans (hb5.mono ((((((Below.refl u3.heap.size u3).drew).trans (hb1.mono ((Below.refl u3.heap.size u3).drew).size)).trans (hb2.mono (((Below.refl u3.heap.size u3).drew).trans (hb1.mono ((Below.refl u3.heap.size u3).drew).size)).size)).trans (hb3.mono ((((Below.refl u3.heap.size u3).drew).trans (hb1.mono ((Below.refl u3.heap.size u3).drew).size)).trans (hb2.mono (((Below.refl u3.heap.size u3).drew).trans (hb1.mono ((Below.refl u3.heap.size u3).drew).size)).size)).size)).trans (hb4.mono (((((Below.refl u3.heap.size u3).drew).trans (hb1.mono ((Below.refl u3.heap.size u3).drew).size)).trans (hb2.mono (((Below.refl u3.heap.size u3).drew).trans (hb1.mono ((Below.refl u3.heap.size u3).drew).size)).size)).trans (hb3.mono ((((Below.refl u3.heap.size u3).drew).trans (hb1.mono ((Below.refl u3.heap.size u3).drew).size)).trans (hb2.mono (((Below.refl u3.heap.size u3).drew).trans (hb1.mono ((Below.refl u3.heap.size u3).drew).size)).size)).size)).size)).size))
            have HZ9 := Lib.hid (HZ3.out.on hbb)
            have HX9 := Lib.hid (HX3.out.on hbb)
            clear hb1 hb2 hb3 hb4 hb5 hbb hHeld ho1
            go_wp2_with fail
            go_roundw
            case rel => exact ⟨i + 1, m, k, t2, _, A5, c5, by omega, rfl, rfl, by go_num, HZ9, HX9, HE2⟩
            case measure => simp [intOf] <;> omega
        · have h2b : (ow == 2) = false := by simp [h2]
          rcases join_cases t oa ob with ⟨hbad, hj⟩ | ⟨hbad, hold, hj⟩ | ⟨hbad, hold, hj⟩
          · have HJ := Lib.hid hj
            have HE2 := Lib.hid (show t.ev.length = m ∧ t.l.length = k ∧ m ≤ 2 * (i + 1) ∧ k ≤ i + 1 ∧ Gp t from ⟨HE.out.1, HE.out.2.1, by omega, by omega, HE.out.2.2.2.2⟩)
            clear hj h2 hbad
            go_upto_region 14 with fail
            clear x0 x1 x2
            try simp only [List.cons_append, List.nil_append]
            refine wp_region_held_drew (S := fun wz => Below W.heap.size W wz) (by kernel_rfl) (HZ.out.l.trans (((Below.refl wr.heap.size wr).drew).mono HZ.out.l.size)) (fun hHeld => ?_)
            refine take_at (some 49) (i := 0) (v := ?_) rfl rfl (by kernel_rfl) (by kernel_rfl) (by kernel_rfl) (fun _ _ _ h => h) (Or.inl ⟨by kernel_rfl, ?_⟩) hHeld ?_
            rotate_left
            · intro wz hSw; go_simp; try (with_reducible rfl)
            try simp only [Act.put, List.setIfInBounds_toArray, List.set_cons_zero, List.set_cons_succ, List.getElem_toArray, List.getElem_cons_succ, List.getElem_cons_zero]
            refine take_at (some 50) (i := 1) (v := ?_) rfl rfl (by kernel_rfl) (by kernel_rfl) (by kernel_rfl) (fun _ _ _ h => h) (Or.inl ⟨by kernel_rfl, ?_⟩) hHeld ?_
            rotate_left
            · intro wz hSw; go_simp; try (with_reducible rfl)
            try simp only [Act.put, List.setIfInBounds_toArray, List.set_cons_zero, List.set_cons_succ, List.getElem_toArray, List.getElem_cons_succ, List.getElem_cons_zero]
            refine take_at (some 51) (i := 2) (v := ?_) rfl rfl (by kernel_rfl) (by kernel_rfl) (by kernel_rfl) (fun _ _ _ h => h) (Or.inl ⟨by kernel_rfl, ?_⟩) hHeld ?_
            rotate_left
            · intro wz hSw; go_simp; try (with_reducible rfl)
            try simp only [Act.put, List.setIfInBounds_toArray, List.set_cons_zero, List.set_cons_succ, List.getElem_toArray, List.getElem_cons_succ, List.getElem_cons_zero]
            refine take_at (some 52) (i := 3) (v := ?_) rfl rfl (by kernel_rfl) (by kernel_rfl) (by kernel_rfl) (fun _ _ _ h => h) (Or.inl ⟨by kernel_rfl, ?_⟩) hHeld ?_
            rotate_left
            · intro wz hSw; go_simp; try (with_reducible rfl)
            try simp only [Act.put, List.setIfInBounds_toArray, List.set_cons_zero, List.set_cons_succ, List.getElem_toArray, List.getElem_cons_succ, List.getElem_cons_zero]
            refine take_at (some 53) (i := 4) (v := ?_) rfl rfl (by kernel_rfl) (by kernel_rfl) (by kernel_rfl) (fun _ _ _ h => h) (Or.inl ⟨by kernel_rfl, ?_⟩) hHeld ?_
            rotate_left
            · intro wz hSw; go_simp; try (with_reducible rfl)
            try simp only [Act.put, List.setIfInBounds_toArray, List.set_cons_zero, List.set_cons_succ, List.getElem_toArray, List.getElem_cons_succ, List.getElem_cons_zero]
            refine take_at (some 54) (i := 5) (v := ?_) rfl rfl (by kernel_rfl) (by kernel_rfl) (by kernel_rfl) (fun _ _ _ h => h) (Or.inl ⟨by kernel_rfl, ?_⟩) hHeld ?_
            rotate_left
            · intro wz hSw; obtain ⟨x0, x1, x2⟩ := HC.out wz hSw; go_simp; try (with_reducible rfl)
            try simp only [Act.put, List.setIfInBounds_toArray, List.set_cons_zero, List.set_cons_succ, List.getElem_toArray, List.getElem_cons_succ, List.getElem_cons_zero]
            refine take_at (some 55) (i := 6) (v := ?_) rfl rfl (by kernel_rfl) (by kernel_rfl) (by kernel_rfl) (fun _ _ _ h => h) (Or.inl ⟨by kernel_rfl, ?_⟩) hHeld ?_
            rotate_left
            · intro wz hSw; go_simp; try (with_reducible rfl)
            try simp only [Act.put, List.setIfInBounds_toArray, List.set_cons_zero, List.set_cons_succ, List.getElem_toArray, List.getElem_cons_succ, List.getElem_cons_zero]
            refine take_at (some 56) (i := 7) (v := ?_) rfl rfl (by kernel_rfl) (by kernel_rfl) (by kernel_rfl) (fun _ _ _ h => h) (Or.inl ⟨by kernel_rfl, ?_⟩) hHeld ?_
            rotate_left
            · intro wz hSw; go_simp; try (with_reducible rfl)
            try simp only [Act.put, List.setIfInBounds_toArray, List.set_cons_zero, List.set_cons_succ, List.getElem_toArray, List.getElem_cons_succ, List.getElem_cons_zero]
            refine take_at (some 57) (i := 8) (v := ?_) rfl rfl (by kernel_rfl) (by kernel_rfl) (by kernel_rfl) (fun _ _ _ h => h) (Or.inl ⟨by kernel_rfl, ?_⟩) hHeld ?_
            rotate_left
            · intro wz hSw; go_simp; try (with_reducible rfl)
            try simp only [Act.put, List.setIfInBounds_toArray, List.set_cons_zero, List.set_cons_succ, List.getElem_toArray, List.getElem_cons_succ, List.getElem_cons_zero]
            refine take_at (some 58) (i := 9) (v := ?_) rfl rfl (by kernel_rfl) (by kernel_rfl) (by kernel_rfl) (fun _ _ _ h => h) (Or.inl ⟨by kernel_rfl, ?_⟩) hHeld ?_
            rotate_left
            · intro wz hSw; go_simp; try (with_reducible rfl)
            try simp only [Act.put, List.setIfInBounds_toArray, List.set_cons_zero, List.set_cons_succ, List.getElem_toArray, List.getElem_cons_succ, List.getElem_cons_zero]
            refine take_at (some 59) (i := 10) (v := ?_) rfl rfl (by kernel_rfl) (by kernel_rfl) (by kernel_rfl) (fun _ _ _ h => h) (Or.inl ⟨by kernel_rfl, ?_⟩) hHeld ?_
            rotate_left
            · intro wz hSw; obtain ⟨x0, x1, x2⟩ := HC.out wz hSw; go_simp; try (with_reducible rfl)
            try simp only [Act.put, List.setIfInBounds_toArray, List.set_cons_zero, List.set_cons_succ, List.getElem_toArray, List.getElem_cons_succ, List.getElem_cons_zero]
            refine wpAnyH_ready (rs := [11]) (by kernel_rfl) (by simp) (AllReadyH.cons rfl (fun K hK => ?_) AllReadyH.nil)
            rw [if_pos (by kernel_rfl)]
            go_simp
            refine (z_join (HZ.out.on ((Below.refl wr.heap.size wr).drew)) HE.out.2.2.2.2 HFW.out oa ob 1 t HJ.out).mono ?_
            rintro e u3 ⟨H3, rfl, h1, h2⟩
            try dsimp only
            refine hK.out _ _ (h1.l) (fun hHeld => ?_)
            try simp only [Act.put, List.setIfInBounds_toArray, List.set_cons_zero, List.set_cons_succ, List.getElem_toArray, List.getElem_cons_succ, List.getElem_cons_zero]
            refine take_at (some 61) (i := 12) (v := ?_) rfl rfl (by kernel_rfl) (by kernel_rfl) (by kernel_rfl) (fun _ _ _ h => h) (Or.inl ⟨by kernel_rfl, ?_⟩) hHeld ?_
            rotate_left
            · intro wz hSw; go_simp; try (with_reducible rfl)
            try simp only [Act.put, List.setIfInBounds_toArray, List.set_cons_zero, List.set_cons_succ, List.getElem_toArray, List.getElem_cons_succ, List.getElem_cons_zero]
            refine wpAnyH_done (by kernel_rfl) ?_ _
            have HZ3 := Lib.hid h1
            have HX3 := Lib.hid ((HX.out.on ((Below.refl wr.heap.size wr).drew)).step h2)
            clear h1 h2 hHeld
            go_upto_region 17 with fail
            obtain ⟨r1, hr1⟩ : ∃ r, decide (oa ∈ t.ev) = r := ⟨_, rfl⟩
            obtain ⟨r2, hr2⟩ : ∃ r, decide (ob ∈ t.ev) = r := ⟨_, rfl⟩
            have HRR := Lib.hid (And.intro hr1 hr2)
            have hq1 : (r1 != r1) = false := by simp
            have hq2 : (r2 != r2) = false := by simp
            have hkk : (((k : Nat) : Int) != ((k : Nat) : Int)) = false := by simp
            clear hr1 hr2
            have HF2 := Lib.hid (show t.l.length ≤ 1000 ∧ t.ev.length ≤ 2000 from ⟨by have := HE2.out.2.1; have := HE2.out.2.2.2.1; omega, by have := HE2.out.1; have := HE2.out.2.2.1; omega⟩)
            have hm8 : m ≤ 1000000 := by have := HE2.out.2.2.1; omega
            try simp only [List.cons_append, List.nil_append]
            refine wp_region_held_drew (S := fun wz => Below W.heap.size W wz) (by kernel_rfl) (HZ3.out.l.trans (((Below.refl u3.heap.size u3).drew).mono HZ3.out.l.size)) (fun hHeld => ?_)
            refine take_at (some 77) (i := 0) (v := ?_) rfl rfl (by kernel_rfl) (by kernel_rfl) (by kernel_rfl) (fun _ _ _ h => h) (Or.inl ⟨by kernel_rfl, ?_⟩) hHeld ?_
            rotate_left
            · intro wz hSw; go_simp; try (with_reducible rfl)
            try simp only [Act.put, List.setIfInBounds_toArray, List.set_cons_zero, List.set_cons_succ, List.getElem_toArray, List.getElem_cons_succ, List.getElem_cons_zero]
            refine take_at (some 80) (i := 3) (v := ?_) rfl rfl (by kernel_rfl) (by kernel_rfl) (by kernel_rfl) (fun _ _ _ h => h) (Or.inl ⟨by kernel_rfl, ?_⟩) hHeld ?_
            rotate_left
            · intro wz hSw; go_simp; try (with_reducible rfl)
            try simp only [Act.put, List.setIfInBounds_toArray, List.set_cons_zero, List.set_cons_succ, List.getElem_toArray, List.getElem_cons_succ, List.getElem_cons_zero]
            refine wpAnyH_ready (rs := [1]) (by kernel_rfl) (by simp) (AllReadyH.cons rfl (fun K hK => ?_) AllReadyH.nil)
            rw [if_pos (by kernel_rfl)]
            go_simp
            refine (z_all (HZ3.out.on ((Below.refl u3.heap.size u3).drew)) HE2.out.2.2.2.2 HF2.out (k) HE2.out.2.1).mono ?_
            rintro e y1 ⟨A8, c8, rfl, ho1, hb1⟩
            try dsimp only
            refine hK.out _ _ (HZ3.out.l.trans ((((Below.refl u3.heap.size u3).drew).trans (hb1.mono ((Below.refl u3.heap.size u3).drew).size)).mono HZ3.out.l.size)) (fun hHeld => ?_)
            try simp only [Act.put, List.setIfInBounds_toArray, List.set_cons_zero, List.set_cons_succ, List.getElem_toArray, List.getElem_cons_succ, List.getElem_cons_zero]
            refine take_at (some 79) (i := 2) (v := ?_) rfl rfl (by kernel_rfl) (by kernel_rfl) (by kernel_rfl) (fun _ _ _ h => h) (Or.inl ⟨by kernel_rfl, ?_⟩) hHeld ?_
            rotate_left
            · intro wz hSw; go_simp; try (with_reducible rfl)
            try simp only [Act.put, List.setIfInBounds_toArray, List.set_cons_zero, List.set_cons_succ, List.getElem_toArray, List.getElem_cons_succ, List.getElem_cons_zero]
            refine take_at (some 81) (i := 4) (v := ?_) rfl rfl (by kernel_rfl) (by kernel_rfl) (by kernel_rfl) (fun _ _ _ h => h) (Or.inl ⟨by kernel_rfl, ?_⟩) hHeld ?_
            rotate_left
            · intro wz hSw; go_simp; try (with_reducible rfl)
            try simp only [Act.put, List.setIfInBounds_toArray, List.set_cons_zero, List.set_cons_succ, List.getElem_toArray, List.getElem_cons_succ, List.getElem_cons_zero]
            refine take_at (some 82) (i := 5) (v := ?_) rfl rfl (by kernel_rfl) (by kernel_rfl) (by kernel_rfl) (fun _ _ _ h => h) (Or.inl ⟨by kernel_rfl, ?_⟩) hHeld ?_
            rotate_left
            · intro wz hSw; go_simp; try (with_reducible rfl)
            try simp only [Act.put, List.setIfInBounds_toArray, List.set_cons_zero, List.set_cons_succ, List.getElem_toArray, List.getElem_cons_succ, List.getElem_cons_zero]
            refine take_at (some 83) (i := 6) (v := ?_) rfl rfl (by kernel_rfl) (by kernel_rfl) (by kernel_rfl) (fun _ _ _ h => h) (Or.inl ⟨by kernel_rfl, ?_⟩) hHeld ?_
            rotate_left
            · intro wz hSw; go_simp; try (with_reducible rfl)
            try simp only [Act.put, List.setIfInBounds_toArray, List.set_cons_zero, List.set_cons_succ, List.getElem_toArray, List.getElem_cons_succ, List.getElem_cons_zero]
            refine take_at (some 84) (i := 7) (v := ?_) rfl rfl (by kernel_rfl) (by kernel_rfl) (by kernel_rfl) (fun _ _ _ h => h) (Or.inl ⟨by kernel_rfl, ?_⟩) hHeld ?_
            rotate_left
            · intro wz hSw; go_simp; try (with_reducible rfl)
            try simp only [Act.put, List.setIfInBounds_toArray, List.set_cons_zero, List.set_cons_succ, List.getElem_toArray, List.getElem_cons_succ, List.getElem_cons_zero]
            refine take_at (some 85) (i := 8) (v := ?_) rfl rfl (by kernel_rfl) (by kernel_rfl) (by kernel_rfl) (fun _ _ _ h => h) (Or.inl ⟨by kernel_rfl, ?_⟩) hHeld ?_
            rotate_left
            · intro wz hSw; go_simp; try (with_reducible rfl)
            try simp only [Act.put, List.setIfInBounds_toArray, List.set_cons_zero, List.set_cons_succ, List.getElem_toArray, List.getElem_cons_succ, List.getElem_cons_zero]
            refine take_at (some 86) (i := 9) (v := ?_) rfl rfl (by kernel_rfl) (by kernel_rfl) (by kernel_rfl) (fun _ _ _ h => h) (Or.inl ⟨by kernel_rfl, ?_⟩) hHeld ?_
            rotate_left
            · intro wz hSw; go_simp; try (with_reducible rfl)
            try simp only [Act.put, List.setIfInBounds_toArray, List.set_cons_zero, List.set_cons_succ, List.getElem_toArray, List.getElem_cons_succ, List.getElem_cons_zero]
            refine take_at (some 87) (i := 10) (v := ?_) rfl rfl (by kernel_rfl) (by kernel_rfl) (by kernel_rfl) (fun _ _ _ h => h) (Or.inl ⟨by kernel_rfl, ?_⟩) hHeld ?_
            rotate_left
            · intro wz hSw; go_simp; try (with_reducible rfl)
            try simp only [Act.put, List.setIfInBounds_toArray, List.set_cons_zero, List.set_cons_succ, List.getElem_toArray, List.getElem_cons_succ, List.getElem_cons_zero]
            refine take_at (some 88) (i := 11) (v := ?_) rfl rfl (by kernel_rfl) (by kernel_rfl) (by kernel_rfl) (fun _ _ _ h => h) (Or.inl ⟨by kernel_rfl, ?_⟩) hHeld ?_
            rotate_left
            · intro wz hSw; obtain ⟨x0, x1, x2⟩ := HC.out wz hSw; go_simp; try (with_reducible rfl)
            try simp only [Act.put, List.setIfInBounds_toArray, List.set_cons_zero, List.set_cons_succ, List.getElem_toArray, List.getElem_cons_succ, List.getElem_cons_zero]
            refine take_at (some 90) (i := 13) (v := ?_) rfl rfl (by kernel_rfl) (by kernel_rfl) (by kernel_rfl) (fun _ _ _ h => h) (Or.inl ⟨by kernel_rfl, ?_⟩) hHeld ?_
            rotate_left
            · intro wz hSw; go_simp; try (with_reducible rfl)
            try simp only [Act.put, List.setIfInBounds_toArray, List.set_cons_zero, List.set_cons_succ, List.getElem_toArray, List.getElem_cons_succ, List.getElem_cons_zero]
            refine take_at (some 91) (i := 14) (v := ?_) rfl rfl (by kernel_rfl) (by kernel_rfl) (by kernel_rfl) (fun _ _ _ h => h) (Or.inl ⟨by kernel_rfl, ?_⟩) hHeld ?_
            rotate_left
            · intro wz hSw; go_simp; try (with_reducible rfl)
            try simp only [Act.put, List.setIfInBounds_toArray, List.set_cons_zero, List.set_cons_succ, List.getElem_toArray, List.getElem_cons_succ, List.getElem_cons_zero]
            refine take_at (some 92) (i := 15) (v := ?_) rfl rfl (by kernel_rfl) (by kernel_rfl) (by kernel_rfl) (fun _ _ _ h => h) (Or.inl ⟨by kernel_rfl, ?_⟩) hHeld ?_
            rotate_left
            · intro wz hSw; go_simp; try (with_reducible rfl)
            try simp only [Act.put, List.setIfInBounds_toArray, List.set_cons_zero, List.set_cons_succ, List.getElem_toArray, List.getElem_cons_succ, List.getElem_cons_zero]
            refine take_at (some 93) (i := 16) (v := ?_) rfl rfl (by kernel_rfl) (by kernel_rfl) (by kernel_rfl) (fun _ _ _ h => h) (Or.inl ⟨by kernel_rfl, ?_⟩) hHeld ?_
            rotate_left
            · intro wz hSw; go_simp; try (with_reducible rfl)
            try simp only [Act.put, List.setIfInBounds_toArray, List.set_cons_zero, List.set_cons_succ, List.getElem_toArray, List.getElem_cons_succ, List.getElem_cons_zero]
            refine take_at (some 94) (i := 17) (v := ?_) rfl rfl (by kernel_rfl) (by kernel_rfl) (by kernel_rfl) (fun _ _ _ h => h) (Or.inl ⟨by kernel_rfl, ?_⟩) hHeld ?_
            rotate_left
            · intro wz hSw; go_simp; try (with_reducible rfl)
            try simp only [Act.put, List.setIfInBounds_toArray, List.set_cons_zero, List.set_cons_succ, List.getElem_toArray, List.getElem_cons_succ, List.getElem_cons_zero]
            refine take_at (some 95) (i := 18) (v := ?_) rfl rfl (by kernel_rfl) (by kernel_rfl) (by kernel_rfl) (fun _ _ _ h => h) (Or.inl ⟨by kernel_rfl, ?_⟩) hHeld ?_
            rotate_left
            · intro wz hSw; obtain ⟨x0, x1, x2⟩ := HC.out wz hSw; go_simp; try (with_reducible rfl)
            try simp only [Act.put, List.setIfInBounds_toArray, List.set_cons_zero, List.set_cons_succ, List.getElem_toArray, List.getElem_cons_succ, List.getElem_cons_zero]
            refine wpAnyH_ready (rs := [12]) (by kernel_rfl) (by simp) (AllReadyH.cons rfl (fun K hK => ?_) AllReadyH.nil)
            rw [if_pos (by kernel_rfl)]
            go_simp
            refine (z_was (HZ3.out.on (((Below.refl u3.heap.size u3).drew).trans (hb1.mono ((Below.refl u3.heap.size u3).drew).size))) HE2.out.2.2.2.2 HF2.out oa r1 HRR.out.1).mono ?_
            rintro e y2 ⟨rfl, hb2⟩
            try dsimp only
            refine hK.out _ _ (HZ3.out.l.trans (((((Below.refl u3.heap.size u3).drew).trans (hb1.mono ((Below.refl u3.heap.size u3).drew).size)).trans (hb2.mono (((Below.refl u3.heap.size u3).drew).trans (hb1.mono ((Below.refl u3.heap.size u3).drew).size)).size)).mono HZ3.out.l.size)) (fun hHeld => ?_)
            try simp only [Act.put, List.setIfInBounds_toArray, List.set_cons_zero, List.set_cons_succ, List.getElem_toArray, List.getElem_cons_succ, List.getElem_cons_zero]
            refine wpAnyH_ready (rs := [19]) (by kernel_rfl) (by simp) (AllReadyH.cons rfl (fun K hK => ?_) AllReadyH.nil)
            rw [if_pos (by kernel_rfl)]
            go_simp
            refine (phas_ok (A5) t.ev (m) (c5) y2 oa (Ow.rw_ (fun _ => rfl) (HX3.out.on ((((Below.refl u3.heap.size u3).drew).trans (hb1.mono ((Below.refl u3.heap.size u3).drew).size)).trans (hb2.mono (((Below.refl u3.heap.size u3).drew).trans (hb1.mono ((Below.refl u3.heap.size u3).drew).size)).size))).o) HE2.out.1 hm8 r1 HRR.out.1).mono ?_
            rintro e y3 ⟨rfl, hb3⟩
            try dsimp only
            refine hK.out _ _ (HZ3.out.l.trans ((((((Below.refl u3.heap.size u3).drew).trans (hb1.mono ((Below.refl u3.heap.size u3).drew).size)).trans (hb2.mono (((Below.refl u3.heap.size u3).drew).trans (hb1.mono ((Below.refl u3.heap.size u3).drew).size)).size)).trans (hb3.mono ((((Below.refl u3.heap.size u3).drew).trans (hb1.mono ((Below.refl u3.heap.size u3).drew).size)).trans (hb2.mono (((Below.refl u3.heap.size u3).drew).trans (hb1.mono ((Below.refl u3.heap.size u3).drew).size)).size)).size)).mono HZ3.out.l.size)) (fun hHeld => ?_)
            try simp only [Act.put, List.setIfInBounds_toArray, List.set_cons_zero, List.set_cons_succ, List.getElem_toArray, List.getElem_cons_succ, List.getElem_cons_zero]
            refine take_at (some 97) (i := 20) (v := ?_) rfl rfl (by kernel_rfl) (by kernel_rfl) (by kernel_rfl) (fun _ _ _ h => h) (Or.inl ⟨by kernel_rfl, ?_⟩) hHeld ?_
            rotate_left
            · intro wz hSw; go_simp; try (with_reducible rfl)
            try simp only [Act.put, List.setIfInBounds_toArray, List.set_cons_zero, List.set_cons_succ, List.getElem_toArray, List.getElem_cons_succ, List.getElem_cons_zero]
            refine take_at (some 98) (i := 21) (v := ?_) rfl rfl (by kernel_rfl) (by kernel_rfl) (by kernel_rfl) (fun _ _ _ h => h) (Or.inl ⟨by kernel_rfl, ?_⟩) hHeld ?_
            rotate_left
            · intro wz hSw; go_simp; try (with_reducible rfl)
            try simp only [Act.put, List.setIfInBounds_toArray, List.set_cons_zero, List.set_cons_succ, List.getElem_toArray, List.getElem_cons_succ, List.getElem_cons_zero]
            refine take_at (some 99) (i := 22) (v := ?_) rfl rfl (by kernel_rfl) (by kernel_rfl) (by kernel_rfl) (fun _ _ _ h => h) (Or.inl ⟨by kernel_rfl, ?_⟩) hHeld ?_
            rotate_left
            · intro wz hSw; go_simp; try (with_reducible rfl)
            try simp only [Act.put, List.setIfInBounds_toArray, List.set_cons_zero, List.set_cons_succ, List.getElem_toArray, List.getElem_cons_succ, List.getElem_cons_zero]
            refine take_at (some 100) (i := 23) (v := ?_) rfl rfl (by kernel_rfl) (by kernel_rfl) (by kernel_rfl) (fun _ _ _ h => h) (Or.inl ⟨by kernel_rfl, ?_⟩) hHeld ?_
            rotate_left
            · intro wz hSw; go_simp; try (with_reducible rfl)
            try simp only [Act.put, List.setIfInBounds_toArray, List.set_cons_zero, List.set_cons_succ, List.getElem_toArray, List.getElem_cons_succ, List.getElem_cons_zero]
            refine take_at (some 101) (i := 24) (v := ?_) rfl rfl (by kernel_rfl) (by kernel_rfl) (by kernel_rfl) (fun _ _ _ h => h) (Or.inl ⟨by kernel_rfl, ?_⟩) hHeld ?_
            rotate_left
            · intro wz hSw; go_simp; try (with_reducible rfl)
            try simp only [Act.put, List.setIfInBounds_toArray, List.set_cons_zero, List.set_cons_succ, List.getElem_toArray, List.getElem_cons_succ, List.getElem_cons_zero]
            refine take_at (some 102) (i := 25) (v := ?_) rfl rfl (by kernel_rfl) (by kernel_rfl) (by kernel_rfl) (fun _ _ _ h => h) (Or.inl ⟨by kernel_rfl, ?_⟩) hHeld ?_
            rotate_left
            · intro wz hSw; go_simp; try (with_reducible rfl)
            try simp only [Act.put, List.setIfInBounds_toArray, List.set_cons_zero, List.set_cons_succ, List.getElem_toArray, List.getElem_cons_succ, List.getElem_cons_zero]
            refine take_at (some 103) (i := 26) (v := ?_) rfl rfl (by kernel_rfl) (by kernel_rfl) (by kernel_rfl) (fun _ _ _ h => h) (Or.inl ⟨by kernel_rfl, ?_⟩) hHeld ?_
            rotate_left
            · intro wz hSw; go_simp; try (with_reducible rfl)
            try simp only [Act.put, List.setIfInBounds_toArray, List.set_cons_zero, List.set_cons_succ, List.getElem_toArray, List.getElem_cons_succ, List.getElem_cons_zero]
            refine take_at (some 104) (i := 27) (v := ?_) rfl rfl (by kernel_rfl) (by kernel_rfl) (by kernel_rfl) (fun _ _ _ h => h) (Or.inl ⟨by kernel_rfl, ?_⟩) hHeld ?_
            rotate_left
            · intro wz hSw; go_simp; try (with_reducible rfl)
            try simp only [Act.put, List.setIfInBounds_toArray, List.set_cons_zero, List.set_cons_succ, List.getElem_toArray, List.getElem_cons_succ, List.getElem_cons_zero]
            refine take_at (some 105) (i := 28) (v := ?_) rfl rfl (by kernel_rfl) (by kernel_rfl) (by kernel_rfl) (fun _ _ _ h => h) (Or.inl ⟨by kernel_rfl, ?_⟩) hHeld ?_
            rotate_left
            · intro wz hSw; obtain ⟨x0, x1, x2⟩ := HC.out wz hSw; go_simp; try (with_reducible rfl)
            try simp only [Act.put, List.setIfInBounds_toArray, List.set_cons_zero, List.set_cons_succ, List.getElem_toArray, List.getElem_cons_succ, List.getElem_cons_zero]
            refine take_at (some 107) (i := 30) (v := ?_) rfl rfl (by kernel_rfl) (by kernel_rfl) (by kernel_rfl) (fun _ _ _ h => h) (Or.inl ⟨by kernel_rfl, ?_⟩) hHeld ?_
            rotate_left
            · intro wz hSw; go_simp; try (with_reducible rfl)
            try simp only [Act.put, List.setIfInBounds_toArray, List.set_cons_zero, List.set_cons_succ, List.getElem_toArray, List.getElem_cons_succ, List.getElem_cons_zero]
            refine take_at (some 108) (i := 31) (v := ?_) rfl rfl (by kernel_rfl) (by kernel_rfl) (by kernel_rfl) (fun _ _ _ h => h) (Or.inl ⟨by kernel_rfl, ?_⟩) hHeld ?_
            rotate_left
            · intro wz hSw; go_simp; try (with_reducible rfl)
            try simp only [Act.put, List.setIfInBounds_toArray, List.set_cons_zero, List.set_cons_succ, List.getElem_toArray, List.getElem_cons_succ, List.getElem_cons_zero]
            refine take_at (some 109) (i := 32) (v := ?_) rfl rfl (by kernel_rfl) (by kernel_rfl) (by kernel_rfl) (fun _ _ _ h => h) (Or.inl ⟨by kernel_rfl, ?_⟩) hHeld ?_
            rotate_left
            · intro wz hSw; go_simp; try (with_reducible rfl)
            try simp only [Act.put, List.setIfInBounds_toArray, List.set_cons_zero, List.set_cons_succ, List.getElem_toArray, List.getElem_cons_succ, List.getElem_cons_zero]
            refine take_at (some 110) (i := 33) (v := ?_) rfl rfl (by kernel_rfl) (by kernel_rfl) (by kernel_rfl) (fun _ _ _ h => h) (Or.inl ⟨by kernel_rfl, ?_⟩) hHeld ?_
            rotate_left
            · intro wz hSw; go_simp; try (with_reducible rfl)
            try simp only [Act.put, List.setIfInBounds_toArray, List.set_cons_zero, List.set_cons_succ, List.getElem_toArray, List.getElem_cons_succ, List.getElem_cons_zero]
            refine take_at (some 111) (i := 34) (v := ?_) rfl rfl (by kernel_rfl) (by kernel_rfl) (by kernel_rfl) (fun _ _ _ h => h) (Or.inl ⟨by kernel_rfl, ?_⟩) hHeld ?_
            rotate_left
            · intro wz hSw; go_simp; try (with_reducible rfl)
            try simp only [Act.put, List.setIfInBounds_toArray, List.set_cons_zero, List.set_cons_succ, List.getElem_toArray, List.getElem_cons_succ, List.getElem_cons_zero]
            refine take_at (some 112) (i := 35) (v := ?_) rfl rfl (by kernel_rfl) (by kernel_rfl) (by kernel_rfl) (fun _ _ _ h => h) (Or.inl ⟨by kernel_rfl, ?_⟩) hHeld ?_
            rotate_left
            · intro wz hSw; obtain ⟨x0, x1, x2⟩ := HC.out wz hSw; go_simp; try (with_reducible rfl)
            try simp only [Act.put, List.setIfInBounds_toArray, List.set_cons_zero, List.set_cons_succ, List.getElem_toArray, List.getElem_cons_succ, List.getElem_cons_zero]
            refine wpAnyH_ready (rs := [29]) (by kernel_rfl) (by simp) (AllReadyH.cons rfl (fun K hK => ?_) AllReadyH.nil)
            rw [if_pos (by kernel_rfl)]
            go_simp
            refine (z_was (HZ3.out.on (((((Below.refl u3.heap.size u3).drew).trans (hb1.mono ((Below.refl u3.heap.size u3).drew).size)).trans (hb2.mono (((Below.refl u3.heap.size u3).drew).trans (hb1.mono ((Below.refl u3.heap.size u3).drew).size)).size)).trans (hb3.mono ((((Below.refl u3.heap.size u3).drew).trans (hb1.mono ((Below.refl u3.heap.size u3).drew).size)).trans (hb2.mono (((Below.refl u3.heap.size u3).drew).trans (hb1.mono ((Below.refl u3.heap.size u3).drew).size)).size)).size))) HE2.out.2.2.2.2 HF2.out ob r2 HRR.out.2).mono ?_
            rintro e y4 ⟨rfl, hb4⟩
            try dsimp only
            refine hK.out _ _ (HZ3.out.l.trans (((((((Below.refl u3.heap.size u3).drew).trans (hb1.mono ((Below.refl u3.heap.size u3).drew).size)).trans (hb2.mono (((Below.refl u3.heap.size u3).drew).trans (hb1.mono ((Below.refl u3.heap.size u3).drew).size)).size)).trans (hb3.mono ((((Below.refl u3.heap.size u3).drew).trans (hb1.mono ((Below.refl u3.heap.size u3).drew).size)).trans (hb2.mono (((Below.refl u3.heap.size u3).drew).trans (hb1.mono ((Below.refl u3.heap.size u3).drew).size)).size)).size)).trans (hb4.mono (((((Below.refl u3.heap.size u3).drew).trans (hb1.mono ((Below.refl u3.heap.size u3).drew).size)).trans (hb2.mono (((Below.refl u3.heap.size u3).drew).trans (hb1.mono ((Below.refl u3.heap.size u3).drew).size)).size)).trans (hb3.mono ((((Below.refl u3.heap.size u3).drew).trans (hb1.mono ((Below.refl u3.heap.size u3).drew).size)).trans (hb2.mono (((Below.refl u3.heap.size u3).drew).trans (hb1.mono ((Below.refl u3.heap.size u3).drew).size)).size)).size)).size)).mono HZ3.out.l.size)) (fun hHeld => ?_)
            try simp only [Act.put, List.setIfInBounds_toArray, List.set_cons_zero, List.set_cons_succ, List.getElem_toArray, List.getElem_cons_succ, List.getElem_cons_zero]
            refine wpAnyH_ready (rs := [36]) (by kernel_rfl) (by simp) (AllReadyH.cons rfl (fun K hK => ?_) AllReadyH.nil)
            rw [if_pos (by kernel_rfl)]
            go_simp
            refine (phas_ok (A5) t.ev (m) (c5) y4 ob (Ow.rw_ (fun _ => rfl) (HX3.out.on ((((((Below.refl u3.heap.size u3).drew).trans (hb1.mono ((Below.refl u3.heap.size u3).drew).size)).trans (hb2.mono (((Below.refl u3.heap.size u3).drew).trans (hb1.mono ((Below.refl u3.heap.size u3).drew).size)).size)).trans (hb3.mono ((((Below.refl u3.heap.size u3).drew).trans (hb1.mono ((Below.refl u3.heap.size u3).drew).size)).trans (hb2.mono (((Below.refl u3.heap.size u3).drew).trans (hb1.mono ((Below.refl u3.heap.size u3).drew).size)).size)).size)).trans (hb4.mono (((((Below.refl u3.heap.size u3).drew).trans (hb1.mono ((Below.refl u3.heap.size u3).drew).size)).trans (hb2.mono (((Below.refl u3.heap.size u3).drew).trans (hb1.mono ((Below.refl u3.heap.size u3).drew).size)).size)).trans (hb3.mono ((((Below.refl u3.heap.size u3).drew).trans (hb1.mono ((Below.refl u3.heap.size u3).drew).size)).trans (hb2.mono (((Below.refl u3.heap.size u3).drew).trans (hb1.mono ((Below.refl u3.heap.size u3).drew).size)).size)).size)).size))).o) HE2.out.1 hm8 r2 HRR.out.2).mono ?_
            rintro e y5 ⟨rfl, hb5⟩
            try dsimp only
            refine hK.out _ _ (HZ3.out.l.trans ((((((((Below.refl u3.heap.size u3).drew).trans (hb1.mono ((Below.refl u3.heap.size u3).drew).size)).trans (hb2.mono (((Below.refl u3.heap.size u3).drew).trans (hb1.mono ((Below.refl u3.heap.size u3).drew).size)).size)).trans (hb3.mono ((((Below.refl u3.heap.size u3).drew).trans (hb1.mono ((Below.refl u3.heap.size u3).drew).size)).trans (hb2.mono (((Below.refl u3.heap.size u3).drew).trans (hb1.mono ((Below.refl u3.heap.size u3).drew).size)).size)).size)).trans (hb4.mono (((((Below.refl u3.heap.size u3).drew).trans (hb1.mono ((Below.refl u3.heap.size u3).drew).size)).trans (hb2.mono (((Below.refl u3.heap.size u3).drew).trans (hb1.mono ((Below.refl u3.heap.size u3).drew).size)).size)).trans (hb3.mono ((((Below.refl u3.heap.size u3).drew).trans (hb1.mono ((Below.refl u3.heap.size u3).drew).size)).trans (hb2.mono (((Below.refl u3.heap.size u3).drew).trans (hb1.mono ((Below.refl u3.heap.size u3).drew).size)).size)).size)).size)).trans (hb5.mono ((((((Below.refl u3.heap.size u3).drew).trans (hb1.mono ((Below.refl u3.heap.size u3).drew).size)).trans (hb2.mono (((Below.refl u3.heap.size u3).drew).trans (hb1.mono ((Below.refl u3.heap.size u3).drew).size)).size)).trans (hb3.mono ((((Below.refl u3.heap.size u3).drew).trans (hb1.mono ((Below.refl u3.heap.size u3).drew).size)).trans (hb2.mono (((Below.refl u3.heap.size u3).drew).trans (hb1.mono ((Below.refl u3.heap.size u3).drew).size)).size)).size)).trans (hb4.mono (((((Below.refl u3.heap.size u3).drew).trans (hb1.mono ((Below.refl u3.heap.size u3).drew).size)).trans (hb2.mono (((Below.refl u3.heap.size u3).drew).trans (hb1.mono ((Below.refl u3.heap.size u3).drew).size)).size)).trans (hb3.mono ((((Below.refl u3.heap.size u3).drew).trans (hb1.mono ((Below.refl u3.heap.size u3).drew).size)).trans (hb2.mono (((Below.refl u3.heap.size u3).drew).trans (hb1.mono ((Below.refl u3.heap.size u3).drew).size)).size)).size)).size)).size)).mono HZ3.out.l.size)) (fun hHeld => ?_)
            try simp only [Act.put, List.setIfInBounds_toArray, List.set_cons_zero, List.set_cons_succ, List.getElem_toArray, List.getElem_cons_succ, List.getElem_cons_zero]
            refine take_at (some 114) (i := 37) (v := ?_) rfl rfl (by kernel_rfl) (by kernel_rfl) (by kernel_rfl) (fun _ _ _ h => h) (Or.inl ⟨by kernel_rfl, ?_⟩) hHeld ?_
            rotate_left
            · intro wz hSw; go_simp; try (with_reducible rfl)
            try simp only [Act.put, List.setIfInBounds_toArray, List.set_cons_zero, List.set_cons_succ, List.getElem_toArray, List.getElem_cons_succ, List.getElem_cons_zero]
            refine take_at (some 115) (i := 38) (v := ?_) rfl rfl (by kernel_rfl) (by kernel_rfl) (by kernel_rfl) (fun _ _ _ h => h) (Or.inl ⟨by kernel_rfl, ?_⟩) hHeld ?_
            rotate_left
            · intro wz hSw; go_simp; try (with_reducible rfl)
            try simp only [Act.put, List.setIfInBounds_toArray, List.set_cons_zero, List.set_cons_succ, List.getElem_toArray, List.getElem_cons_succ, List.getElem_cons_zero]
            refine wpAnyH_done (by kernel_rfl) ?_ _
            have hbb := (((((((Below.refl u3.heap.size u3).drew).trans (hb1.mono ((Below.refl u3.heap.size u3).drew).size)).trans (hb2.mono (((Below.refl u3.heap.size u3).drew).trans (hb1.mono ((Below.refl u3.heap.size u3).drew).size)).size)).trans (hb3.mono ((((Below.refl u3.heap.size u3).drew).trans (hb1.mono ((Below.refl u3.heap.size u3).drew).size)).trans (hb2.mono (((Below.refl u3.heap.size u3).drew).trans (hb1.mono ((Below.refl u3.heap.size u3).drew).size)).size)).size)).trans (hb4.mono (((((Below.refl u3.heap.size u3).drew).trans (hb1.mono ((Below.refl u3.heap.size u3).drew).size)).trans (hb2.mono (((Below.refl u3.heap.size u3).drew).trans (hb1.mono ((Below.refl u3.heap.size u3).drew).size)).size)).trans (hb3.mono ((((Below.refl u3.heap.size u3).drew).trans (hb1.mono ((Below.refl u3.heap.size u3).drew).size)).trans (hb2.mono (((Below.refl u3.heap.size u3).drew).trans (hb1.mono ((Below.refl u3.heap.size u3).drew).size)).size)).size)).size)).trans (hb5.mono ((((((Below.refl u3.heap.size u3).drew).trans (hb1.mono ((Below.refl u3.heap.size u3).drew).size)).trans (hb2.mono (((Below.refl u3.heap.size u3).drew).trans (hb1.mono ((Below.refl u3.heap.size u3).drew).size)).size)).trans (hb3.mono ((((Below.refl u3.heap.size u3).drew).trans (hb1.mono ((Below.refl u3.heap.size u3).drew).size)).trans (hb2.mono (((Below.refl u3.heap.size u3).drew).trans (hb1.mono ((Below.refl u3.heap.size u3).drew).size)).size)).size)).trans (hb4.mono (((((Below.refl u3.heap.size u3).drew).trans (hb1.mono ((Below.refl u3.heap.size u3).drew).size)).trans (hb2.mono (((Below.refl u3.heap.size u3).drew).trans (hb1.mono ((Below.refl u3.heap.size u3).drew).size)).size)).trans (hb3.mono ((((Below.refl u3.heap.size u3).drew).trans (hb1.mono ((Below.refl u3.heap.size u3).drew).size)).trans (hb2.mono (((Below.refl u3.heap.size u3).drew).trans (hb1.mono ((Below.refl u3.heap.size u3).drew).size)).size)).size)).size)).size))
            have HZ9 := Lib.hid (HZ3.out.on hbb)
            have HX9 := Lib.hid (HX3.out.on hbb)
            clear hb1 hb2 hb3 hb4 hb5 hbb hHeld ho1
            go_wp2_with fail
            go_roundw
            case rel => exact ⟨i + 1, m, k, t, _, A5, c5, by omega, rfl, rfl, by go_num, HZ9, HX9, HE2⟩
            case measure => simp [intOf] <;> omega
          · have HJ := Lib.hid hj
            have HE2 := Lib.hid (show t.ev.length = m ∧ t.l.length = k ∧ m ≤ 2 * (i + 1) ∧ k ≤ i + 1 ∧ Gp t from ⟨HE.out.1, HE.out.2.1, by omega, by omega, HE.out.2.2.2.2⟩)
            clear hj h2 hbad hold
            go_upto_region 14 with fail
            clear x0 x1 x2
            try simp only [List.cons_append, List.nil_append]
            refine wp_region_held_drew (S := fun wz => Below W.heap.size W wz) (by kernel_rfl) (HZ.out.l.trans (((Below.refl wr.heap.size wr).drew).mono HZ.out.l.size)) (fun hHeld => ?_)
            refine take_at (some 49) (i := 0) (v := ?_) rfl rfl (by kernel_rfl) (by kernel_rfl) (by kernel_rfl) (fun _ _ _ h => h) (Or.inl ⟨by kernel_rfl, ?_⟩) hHeld ?_
            rotate_left
            · intro wz hSw; go_simp; try (with_reducible rfl)
            try simp only [Act.put, List.setIfInBounds_toArray, List.set_cons_zero, List.set_cons_succ, List.getElem_toArray, List.getElem_cons_succ, List.getElem_cons_zero]
            refine take_at (some 50) (i := 1) (v := ?_) rfl rfl (by kernel_rfl) (by kernel_rfl) (by kernel_rfl) (fun _ _ _ h => h) (Or.inl ⟨by kernel_rfl, ?_⟩) hHeld ?_
            rotate_left
            · intro wz hSw; go_simp; try (with_reducible rfl)
            try simp only [Act.put, List.setIfInBounds_toArray, List.set_cons_zero, List.set_cons_succ, List.getElem_toArray, List.getElem_cons_succ, List.getElem_cons_zero]
            refine take_at (some 51) (i := 2) (v := ?_) rfl rfl (by kernel_rfl) (by kernel_rfl) (by kernel_rfl) (fun _ _ _ h => h) (Or.inl ⟨by kernel_rfl, ?_⟩) hHeld ?_
            rotate_left
            · intro wz hSw; go_simp; try (with_reducible rfl)
            try simp only [Act.put, List.setIfInBounds_toArray, List.set_cons_zero, List.set_cons_succ, List.getElem_toArray, List.getElem_cons_succ, List.getElem_cons_zero]
            refine take_at (some 52) (i := 3) (v := ?_) rfl rfl (by kernel_rfl) (by kernel_rfl) (by kernel_rfl) (fun _ _ _ h => h) (Or.inl ⟨by kernel_rfl, ?_⟩) hHeld ?_
            rotate_left
            · intro wz hSw; go_simp; try (with_reducible rfl)
            try simp only [Act.put, List.setIfInBounds_toArray, List.set_cons_zero, List.set_cons_succ, List.getElem_toArray, List.getElem_cons_succ, List.getElem_cons_zero]
            refine take_at (some 53) (i := 4) (v := ?_) rfl rfl (by kernel_rfl) (by kernel_rfl) (by kernel_rfl) (fun _ _ _ h => h) (Or.inl ⟨by kernel_rfl, ?_⟩) hHeld ?_
            rotate_left
            · intro wz hSw; go_simp; try (with_reducible rfl)
            try simp only [Act.put, List.setIfInBounds_toArray, List.set_cons_zero, List.set_cons_succ, List.getElem_toArray, List.getElem_cons_succ, List.getElem_cons_zero]
            refine take_at (some 54) (i := 5) (v := ?_) rfl rfl (by kernel_rfl) (by kernel_rfl) (by kernel_rfl) (fun _ _ _ h => h) (Or.inl ⟨by kernel_rfl, ?_⟩) hHeld ?_
            rotate_left
            · intro wz hSw; obtain ⟨x0, x1, x2⟩ := HC.out wz hSw; go_simp; try (with_reducible rfl)
            try simp only [Act.put, List.setIfInBounds_toArray, List.set_cons_zero, List.set_cons_succ, List.getElem_toArray, List.getElem_cons_succ, List.getElem_cons_zero]
            refine take_at (some 55) (i := 6) (v := ?_) rfl rfl (by kernel_rfl) (by kernel_rfl) (by kernel_rfl) (fun _ _ _ h => h) (Or.inl ⟨by kernel_rfl, ?_⟩) hHeld ?_
            rotate_left
            · intro wz hSw; go_simp; try (with_reducible rfl)
            try simp only [Act.put, List.setIfInBounds_toArray, List.set_cons_zero, List.set_cons_succ, List.getElem_toArray, List.getElem_cons_succ, List.getElem_cons_zero]
            refine take_at (some 56) (i := 7) (v := ?_) rfl rfl (by kernel_rfl) (by kernel_rfl) (by kernel_rfl) (fun _ _ _ h => h) (Or.inl ⟨by kernel_rfl, ?_⟩) hHeld ?_
            rotate_left
            · intro wz hSw; go_simp; try (with_reducible rfl)
            try simp only [Act.put, List.setIfInBounds_toArray, List.set_cons_zero, List.set_cons_succ, List.getElem_toArray, List.getElem_cons_succ, List.getElem_cons_zero]
            refine take_at (some 57) (i := 8) (v := ?_) rfl rfl (by kernel_rfl) (by kernel_rfl) (by kernel_rfl) (fun _ _ _ h => h) (Or.inl ⟨by kernel_rfl, ?_⟩) hHeld ?_
            rotate_left
            · intro wz hSw; go_simp; try (with_reducible rfl)
            try simp only [Act.put, List.setIfInBounds_toArray, List.set_cons_zero, List.set_cons_succ, List.getElem_toArray, List.getElem_cons_succ, List.getElem_cons_zero]
            refine take_at (some 58) (i := 9) (v := ?_) rfl rfl (by kernel_rfl) (by kernel_rfl) (by kernel_rfl) (fun _ _ _ h => h) (Or.inl ⟨by kernel_rfl, ?_⟩) hHeld ?_
            rotate_left
            · intro wz hSw; go_simp; try (with_reducible rfl)
            try simp only [Act.put, List.setIfInBounds_toArray, List.set_cons_zero, List.set_cons_succ, List.getElem_toArray, List.getElem_cons_succ, List.getElem_cons_zero]
            refine take_at (some 59) (i := 10) (v := ?_) rfl rfl (by kernel_rfl) (by kernel_rfl) (by kernel_rfl) (fun _ _ _ h => h) (Or.inl ⟨by kernel_rfl, ?_⟩) hHeld ?_
            rotate_left
            · intro wz hSw; obtain ⟨x0, x1, x2⟩ := HC.out wz hSw; go_simp; try (with_reducible rfl)
            try simp only [Act.put, List.setIfInBounds_toArray, List.set_cons_zero, List.set_cons_succ, List.getElem_toArray, List.getElem_cons_succ, List.getElem_cons_zero]
            refine wpAnyH_ready (rs := [11]) (by kernel_rfl) (by simp) (AllReadyH.cons rfl (fun K hK => ?_) AllReadyH.nil)
            rw [if_pos (by kernel_rfl)]
            go_simp
            refine (z_join (HZ.out.on ((Below.refl wr.heap.size wr).drew)) HE.out.2.2.2.2 HFW.out oa ob 4 t HJ.out).mono ?_
            rintro e u3 ⟨H3, rfl, h1, h2⟩
            try dsimp only
            refine hK.out _ _ (h1.l) (fun hHeld => ?_)
            try simp only [Act.put, List.setIfInBounds_toArray, List.set_cons_zero, List.set_cons_succ, List.getElem_toArray, List.getElem_cons_succ, List.getElem_cons_zero]
            refine take_at (some 61) (i := 12) (v := ?_) rfl rfl (by kernel_rfl) (by kernel_rfl) (by kernel_rfl) (fun _ _ _ h => h) (Or.inl ⟨by kernel_rfl, ?_⟩) hHeld ?_
            rotate_left
            · intro wz hSw; go_simp; try (with_reducible rfl)
            try simp only [Act.put, List.setIfInBounds_toArray, List.set_cons_zero, List.set_cons_succ, List.getElem_toArray, List.getElem_cons_succ, List.getElem_cons_zero]
            refine wpAnyH_done (by kernel_rfl) ?_ _
            have HZ3 := Lib.hid h1
            have HX3 := Lib.hid ((HX.out.on ((Below.refl wr.heap.size wr).drew)).step h2)
            clear h1 h2 hHeld
            go_upto_region 17 with fail
            obtain ⟨r1, hr1⟩ : ∃ r, decide (oa ∈ t.ev) = r := ⟨_, rfl⟩
            obtain ⟨r2, hr2⟩ : ∃ r, decide (ob ∈ t.ev) = r := ⟨_, rfl⟩
            have HRR := Lib.hid (And.intro hr1 hr2)
            have hq1 : (r1 != r1) = false := by simp
            have hq2 : (r2 != r2) = false := by simp
            have hkk : (((k : Nat) : Int) != ((k : Nat) : Int)) = false := by simp
            clear hr1 hr2
            have HF2 := Lib.hid (show t.l.length ≤ 1000 ∧ t.ev.length ≤ 2000 from ⟨by have := HE2.out.2.1; have := HE2.out.2.2.2.1; omega, by have := HE2.out.1; have := HE2.out.2.2.1; omega⟩)
            have hm8 : m ≤ 1000000 := by have := HE2.out.2.2.1; omega
            try simp only [List.cons_append, List.nil_append]
            refine wp_region_held_drew (S := fun wz => Below W.heap.size W wz) (by kernel_rfl) (HZ3.out.l.trans (((Below.refl u3.heap.size u3).drew).mono HZ3.out.l.size)) (fun hHeld => ?_)
            refine take_at (some 77) (i := 0) (v := ?_) rfl rfl (by kernel_rfl) (by kernel_rfl) (by kernel_rfl) (fun _ _ _ h => h) (Or.inl ⟨by kernel_rfl, ?_⟩) hHeld ?_
            rotate_left
            · intro wz hSw; go_simp; try (with_reducible rfl)
            try simp only [Act.put, List.setIfInBounds_toArray, List.set_cons_zero, List.set_cons_succ, List.getElem_toArray, List.getElem_cons_succ, List.getElem_cons_zero]
            refine take_at (some 80) (i := 3) (v := ?_) rfl rfl (by kernel_rfl) (by kernel_rfl) (by kernel_rfl) (fun _ _ _ h => h) (Or.inl ⟨by kernel_rfl, ?_⟩) hHeld ?_
            rotate_left
            · intro wz hSw; go_simp; try (with_reducible rfl)
            try simp only [Act.put, List.setIfInBounds_toArray, List.set_cons_zero, List.set_cons_succ, List.getElem_toArray, List.getElem_cons_succ, List.getElem_cons_zero]
            refine wpAnyH_ready (rs := [1]) (by kernel_rfl) (by simp) (AllReadyH.cons rfl (fun K hK => ?_) AllReadyH.nil)
            rw [if_pos (by kernel_rfl)]
            go_simp
            refine (z_all (HZ3.out.on ((Below.refl u3.heap.size u3).drew)) HE2.out.2.2.2.2 HF2.out (k) HE2.out.2.1).mono ?_
            rintro e y1 ⟨A8, c8, rfl, ho1, hb1⟩
            try dsimp only
            refine hK.out _ _ (HZ3.out.l.trans ((((Below.refl u3.heap.size u3).drew).trans (hb1.mono ((Below.refl u3.heap.size u3).drew).size)).mono HZ3.out.l.size)) (fun hHeld => ?_)
            try simp only [Act.put, List.setIfInBounds_toArray, List.set_cons_zero, List.set_cons_succ, List.getElem_toArray, List.getElem_cons_succ, List.getElem_cons_zero]
            refine take_at (some 79) (i := 2) (v := ?_) rfl rfl (by kernel_rfl) (by kernel_rfl) (by kernel_rfl) (fun _ _ _ h => h) (Or.inl ⟨by kernel_rfl, ?_⟩) hHeld ?_
            rotate_left
            · intro wz hSw; go_simp; try (with_reducible rfl)
            try simp only [Act.put, List.setIfInBounds_toArray, List.set_cons_zero, List.set_cons_succ, List.getElem_toArray, List.getElem_cons_succ, List.getElem_cons_zero]
            refine take_at (some 81) (i := 4) (v := ?_) rfl rfl (by kernel_rfl) (by kernel_rfl) (by kernel_rfl) (fun _ _ _ h => h) (Or.inl ⟨by kernel_rfl, ?_⟩) hHeld ?_
            rotate_left
            · intro wz hSw; go_simp; try (with_reducible rfl)
            try simp only [Act.put, List.setIfInBounds_toArray, List.set_cons_zero, List.set_cons_succ, List.getElem_toArray, List.getElem_cons_succ, List.getElem_cons_zero]
            refine take_at (some 82) (i := 5) (v := ?_) rfl rfl (by kernel_rfl) (by kernel_rfl) (by kernel_rfl) (fun _ _ _ h => h) (Or.inl ⟨by kernel_rfl, ?_⟩) hHeld ?_
            rotate_left
            · intro wz hSw; go_simp; try (with_reducible rfl)
            try simp only [Act.put, List.setIfInBounds_toArray, List.set_cons_zero, List.set_cons_succ, List.getElem_toArray, List.getElem_cons_succ, List.getElem_cons_zero]
            refine take_at (some 83) (i := 6) (v := ?_) rfl rfl (by kernel_rfl) (by kernel_rfl) (by kernel_rfl) (fun _ _ _ h => h) (Or.inl ⟨by kernel_rfl, ?_⟩) hHeld ?_
            rotate_left
            · intro wz hSw; go_simp; try (with_reducible rfl)
            try simp only [Act.put, List.setIfInBounds_toArray, List.set_cons_zero, List.set_cons_succ, List.getElem_toArray, List.getElem_cons_succ, List.getElem_cons_zero]
            refine take_at (some 84) (i := 7) (v := ?_) rfl rfl (by kernel_rfl) (by kernel_rfl) (by kernel_rfl) (fun _ _ _ h => h) (Or.inl ⟨by kernel_rfl, ?_⟩) hHeld ?_
            rotate_left
            · intro wz hSw; go_simp; try (with_reducible rfl)
            try simp only [Act.put, List.setIfInBounds_toArray, List.set_cons_zero, List.set_cons_succ, List.getElem_toArray, List.getElem_cons_succ, List.getElem_cons_zero]
            refine take_at (some 85) (i := 8) (v := ?_) rfl rfl (by kernel_rfl) (by kernel_rfl) (by kernel_rfl) (fun _ _ _ h => h) (Or.inl ⟨by kernel_rfl, ?_⟩) hHeld ?_
            rotate_left
            · intro wz hSw; go_simp; try (with_reducible rfl)
            try simp only [Act.put, List.setIfInBounds_toArray, List.set_cons_zero, List.set_cons_succ, List.getElem_toArray, List.getElem_cons_succ, List.getElem_cons_zero]
            refine take_at (some 86) (i := 9) (v := ?_) rfl rfl (by kernel_rfl) (by kernel_rfl) (by kernel_rfl) (fun _ _ _ h => h) (Or.inl ⟨by kernel_rfl, ?_⟩) hHeld ?_
            rotate_left
            · intro wz hSw; go_simp; try (with_reducible rfl)
            try simp only [Act.put, List.setIfInBounds_toArray, List.set_cons_zero, List.set_cons_succ, List.getElem_toArray, List.getElem_cons_succ, List.getElem_cons_zero]
            refine take_at (some 87) (i := 10) (v := ?_) rfl rfl (by kernel_rfl) (by kernel_rfl) (by kernel_rfl) (fun _ _ _ h => h) (Or.inl ⟨by kernel_rfl, ?_⟩) hHeld ?_
            rotate_left
            · intro wz hSw; go_simp; try (with_reducible rfl)
            try simp only [Act.put, List.setIfInBounds_toArray, List.set_cons_zero, List.set_cons_succ, List.getElem_toArray, List.getElem_cons_succ, List.getElem_cons_zero]
            refine take_at (some 88) (i := 11) (v := ?_) rfl rfl (by kernel_rfl) (by kernel_rfl) (by kernel_rfl) (fun _ _ _ h => h) (Or.inl ⟨by kernel_rfl, ?_⟩) hHeld ?_
            rotate_left
            · intro wz hSw; obtain ⟨x0, x1, x2⟩ := HC.out wz hSw; go_simp; try (with_reducible rfl)
            try simp only [Act.put, List.setIfInBounds_toArray, List.set_cons_zero, List.set_cons_succ, List.getElem_toArray, List.getElem_cons_succ, List.getElem_cons_zero]
            refine take_at (some 90) (i := 13) (v := ?_) rfl rfl (by kernel_rfl) (by kernel_rfl) (by kernel_rfl) (fun _ _ _ h => h) (Or.inl ⟨by kernel_rfl, ?_⟩) hHeld ?_
            rotate_left
            · intro wz hSw; go_simp; try (with_reducible rfl)
            try simp only [Act.put, List.setIfInBounds_toArray, List.set_cons_zero, List.set_cons_succ, List.getElem_toArray, List.getElem_cons_succ, List.getElem_cons_zero]
            refine take_at (some 91) (i := 14) (v := ?_) rfl rfl (by kernel_rfl) (by kernel_rfl) (by kernel_rfl) (fun _ _ _ h => h) (Or.inl ⟨by kernel_rfl, ?_⟩) hHeld ?_
            rotate_left
            · intro wz hSw; go_simp; try (with_reducible rfl)
            try simp only [Act.put, List.setIfInBounds_toArray, List.set_cons_zero, List.set_cons_succ, List.getElem_toArray, List.getElem_cons_succ, List.getElem_cons_zero]
            refine take_at (some 92) (i := 15) (v := ?_) rfl rfl (by kernel_rfl) (by kernel_rfl) (by kernel_rfl) (fun _ _ _ h => h) (Or.inl ⟨by kernel_rfl, ?_⟩) hHeld ?_
            rotate_left
            · intro wz hSw; go_simp; try (with_reducible rfl)
            try simp only [Act.put, List.setIfInBounds_toArray, List.set_cons_zero, List.set_cons_succ, List.getElem_toArray, List.getElem_cons_succ, List.getElem_cons_zero]
            refine take_at (some 93) (i := 16) (v := ?_) rfl rfl (by kernel_rfl) (by kernel_rfl) (by kernel_rfl) (fun _ _ _ h => h) (Or.inl ⟨by kernel_rfl, ?_⟩) hHeld ?_
            rotate_left
            · intro wz hSw; go_simp; try (with_reducible rfl)
            try simp only [Act.put, List.setIfInBounds_toArray, List.set_cons_zero, List.set_cons_succ, List.getElem_toArray, List.getElem_cons_succ, List.getElem_cons_zero]
            refine take_at (some 94) (i := 17) (v := ?_) rfl rfl (by kernel_rfl) (by kernel_rfl) (by kernel_rfl) (fun _ _ _ h => h) (Or.inl ⟨by kernel_rfl, ?_⟩) hHeld ?_
            rotate_left
            · intro wz hSw; go_simp; try (with_reducible rfl)
            try simp only [Act.put, List.setIfInBounds_toArray, List.set_cons_zero, List.set_cons_succ, List.getElem_toArray, List.getElem_cons_succ, List.getElem_cons_zero]
            refine take_at (some 95) (i := 18) (v := ?_) rfl rfl (by kernel_rfl) (by kernel_rfl) (by kernel_rfl) (fun _ _ _ h => h) (Or.inl ⟨by kernel_rfl, ?_⟩) hHeld ?_
            rotate_left
            · intro wz hSw; obtain ⟨x0, x1, x2⟩ := HC.out wz hSw; go_simp; try (with_reducible rfl)
            try simp only [Act.put, List.setIfInBounds_toArray, List.set_cons_zero, List.set_cons_succ, List.getElem_toArray, List.getElem_cons_succ, List.getElem_cons_zero]
            refine wpAnyH_ready (rs := [12]) (by kernel_rfl) (by simp) (AllReadyH.cons rfl (fun K hK => ?_) AllReadyH.nil)
            rw [if_pos (by kernel_rfl)]
            go_simp
            refine (z_was (HZ3.out.on (((Below.refl u3.heap.size u3).drew).trans (hb1.mono ((Below.refl u3.heap.size u3).drew).size))) HE2.out.2.2.2.2 HF2.out oa r1 HRR.out.1).mono ?_
            rintro e y2 ⟨rfl, hb2⟩
            try dsimp only
            refine hK.out _ _ (HZ3.out.l.trans (((((Below.refl u3.heap.size u3).drew).trans (hb1.mono ((Below.refl u3.heap.size u3).drew).size)).trans (hb2.mono (((Below.refl u3.heap.size u3).drew).trans (hb1.mono ((Below.refl u3.heap.size u3).drew).size)).size)).mono HZ3.out.l.size)) (fun hHeld => ?_)
            try simp only [Act.put, List.setIfInBounds_toArray, List.set_cons_zero, List.set_cons_succ, List.getElem_toArray, List.getElem_cons_succ, List.getElem_cons_zero]
            refine wpAnyH_ready (rs := [19]) (by kernel_rfl) (by simp) (AllReadyH.cons rfl (fun K hK => ?_) AllReadyH.nil)
            rw [if_pos (by kernel_rfl)]
            go_simp
            refine (phas_ok (A5) t.ev (m) (c5) y2 oa (Ow.rw_ (fun _ => rfl) (HX3.out.on ((((Below.refl u3.heap.size u3).drew).trans (hb1.mono ((Below.refl u3.heap.size u3).drew).size)).trans (hb2.mono (((Below.refl u3.heap.size u3).drew).trans (hb1.mono ((Below.refl u3.heap.size u3).drew).size)).size))).o) HE2.out.1 hm8 r1 HRR.out.1).mono ?_
            rintro e y3 ⟨rfl, hb3⟩
            try dsimp only
            refine hK.out _ _ (HZ3.out.l.trans ((((((Below.refl u3.heap.size u3).drew).trans (hb1.mono ((Below.refl u3.heap.size u3).drew).size)).trans (hb2.mono (((Below.refl u3.heap.size u3).drew).trans (hb1.mono ((Below.refl u3.heap.size u3).drew).size)).size)).trans (hb3.mono ((((Below.refl u3.heap.size u3).drew).trans (hb1.mono ((Below.refl u3.heap.size u3).drew).size)).trans (hb2.mono (((Below.refl u3.heap.size u3).drew).trans (hb1.mono ((Below.refl u3.heap.size u3).drew).size)).size)).size)).mono HZ3.out.l.size)) (fun hHeld => ?_)
            try simp only [Act.put, List.setIfInBounds_toArray, List.set_cons_zero, List.set_cons_succ, List.getElem_toArray, List.getElem_cons_succ, List.getElem_cons_zero]
            refine take_at (some 97) (i := 20) (v := ?_) rfl rfl (by kernel_rfl) (by kernel_rfl) (by kernel_rfl) (fun _ _ _ h => h) (Or.inl ⟨by kernel_rfl, ?_⟩) hHeld ?_
            rotate_left
            · intro wz hSw; go_simp; try (with_reducible rfl)
            try simp only [Act.put, List.setIfInBounds_toArray, List.set_cons_zero, List.set_cons_succ, List.getElem_toArray, List.getElem_cons_succ, List.getElem_cons_zero]
            refine take_at (some 98) (i := 21) (v := ?_) rfl rfl (by kernel_rfl) (by kernel_rfl) (by kernel_rfl) (fun _ _ _ h => h) (Or.inl ⟨by kernel_rfl, ?_⟩) hHeld ?_
            rotate_left
            · intro wz hSw; go_simp; try (with_reducible rfl)
            try simp only [Act.put, List.setIfInBounds_toArray, List.set_cons_zero, List.set_cons_succ, List.getElem_toArray, List.getElem_cons_succ, List.getElem_cons_zero]
            refine take_at (some 99) (i := 22) (v := ?_) rfl rfl (by kernel_rfl) (by kernel_rfl) (by kernel_rfl) (fun _ _ _ h => h) (Or.inl ⟨by kernel_rfl, ?_⟩) hHeld ?_
            rotate_left
            · intro wz hSw; go_simp; try (with_reducible rfl)
            try simp only [Act.put, List.setIfInBounds_toArray, List.set_cons_zero, List.set_cons_succ, List.getElem_toArray, List.getElem_cons_succ, List.getElem_cons_zero]
            refine take_at (some 100) (i := 23) (v := ?_) rfl rfl (by kernel_rfl) (by kernel_rfl) (by kernel_rfl) (fun _ _ _ h => h) (Or.inl ⟨by kernel_rfl, ?_⟩) hHeld ?_
            rotate_left
            · intro wz hSw; go_simp; try (with_reducible rfl)
            try simp only [Act.put, List.setIfInBounds_toArray, List.set_cons_zero, List.set_cons_succ, List.getElem_toArray, List.getElem_cons_succ, List.getElem_cons_zero]
            refine take_at (some 101) (i := 24) (v := ?_) rfl rfl (by kernel_rfl) (by kernel_rfl) (by kernel_rfl) (fun _ _ _ h => h) (Or.inl ⟨by kernel_rfl, ?_⟩) hHeld ?_
            rotate_left
            · intro wz hSw; go_simp; try (with_reducible rfl)
            try simp only [Act.put, List.setIfInBounds_toArray, List.set_cons_zero, List.set_cons_succ, List.getElem_toArray, List.getElem_cons_succ, List.getElem_cons_zero]
            refine take_at (some 102) (i := 25) (v := ?_) rfl rfl (by kernel_rfl) (by kernel_rfl) (by kernel_rfl) (fun _ _ _ h => h) (Or.inl ⟨by kernel_rfl, ?_⟩) hHeld ?_
            rotate_left
            · intro wz hSw; go_simp; try (with_reducible rfl)
            try simp only [Act.put, List.setIfInBounds_toArray, List.set_cons_zero, List.set_cons_succ, List.getElem_toArray, List.getElem_cons_succ, List.getElem_cons_zero]
            refine take_at (some 103) (i := 26) (v := ?_) rfl rfl (by kernel_rfl) (by kernel_rfl) (by kernel_rfl) (fun _ _ _ h => h) (Or.inl ⟨by kernel_rfl, ?_⟩) hHeld ?_
            rotate_left
            · intro wz hSw; go_simp; try (with_reducible rfl)
            try simp only [Act.put, List.setIfInBounds_toArray, List.set_cons_zero, List.set_cons_succ, List.getElem_toArray, List.getElem_cons_succ, List.getElem_cons_zero]
            refine take_at (some 104) (i := 27) (v := ?_) rfl rfl (by kernel_rfl) (by kernel_rfl) (by kernel_rfl) (fun _ _ _ h => h) (Or.inl ⟨by kernel_rfl, ?_⟩) hHeld ?_
            rotate_left
            · intro wz hSw; go_simp; try (with_reducible rfl)
            try simp only [Act.put, List.setIfInBounds_toArray, List.set_cons_zero, List.set_cons_succ, List.getElem_toArray, List.getElem_cons_succ, List.getElem_cons_zero]
            refine take_at (some 105) (i := 28) (v := ?_) rfl rfl (by kernel_rfl) (by kernel_rfl) (by kernel_rfl) (fun _ _ _ h => h) (Or.inl ⟨by kernel_rfl, ?_⟩) hHeld ?_
            rotate_left
            · intro wz hSw; obtain ⟨x0, x1, x2⟩ := HC.out wz hSw; go_simp; try (with_reducible rfl)
            try simp only [Act.put, List.setIfInBounds_toArray, List.set_cons_zero, List.set_cons_succ, List.getElem_toArray, List.getElem_cons_succ, List.getElem_cons_zero]
            refine take_at (some 107) (i := 30) (v := ?_) rfl rfl (by kernel_rfl) (by kernel_rfl) (by kernel_rfl) (fun _ _ _ h => h) (Or.inl ⟨by kernel_rfl, ?_⟩) hHeld ?_
            rotate_left
            · intro wz hSw; go_simp; try (with_reducible rfl)
            try simp only [Act.put, List.setIfInBounds_toArray, List.set_cons_zero, List.set_cons_succ, List.getElem_toArray, List.getElem_cons_succ, List.getElem_cons_zero]
            refine take_at (some 108) (i := 31) (v := ?_) rfl rfl (by kernel_rfl) (by kernel_rfl) (by kernel_rfl) (fun _ _ _ h => h) (Or.inl ⟨by kernel_rfl, ?_⟩) hHeld ?_
            rotate_left
            · intro wz hSw; go_simp; try (with_reducible rfl)
            try simp only [Act.put, List.setIfInBounds_toArray, List.set_cons_zero, List.set_cons_succ, List.getElem_toArray, List.getElem_cons_succ, List.getElem_cons_zero]
            refine take_at (some 109) (i := 32) (v := ?_) rfl rfl (by kernel_rfl) (by kernel_rfl) (by kernel_rfl) (fun _ _ _ h => h) (Or.inl ⟨by kernel_rfl, ?_⟩) hHeld ?_
            rotate_left
            · intro wz hSw; go_simp; try (with_reducible rfl)
            try simp only [Act.put, List.setIfInBounds_toArray, List.set_cons_zero, List.set_cons_succ, List.getElem_toArray, List.getElem_cons_succ, List.getElem_cons_zero]
            refine take_at (some 110) (i := 33) (v := ?_) rfl rfl (by kernel_rfl) (by kernel_rfl) (by kernel_rfl) (fun _ _ _ h => h) (Or.inl ⟨by kernel_rfl, ?_⟩) hHeld ?_
            rotate_left
            · intro wz hSw; go_simp; try (with_reducible rfl)
            try simp only [Act.put, List.setIfInBounds_toArray, List.set_cons_zero, List.set_cons_succ, List.getElem_toArray, List.getElem_cons_succ, List.getElem_cons_zero]
            refine take_at (some 111) (i := 34) (v := ?_) rfl rfl (by kernel_rfl) (by kernel_rfl) (by kernel_rfl) (fun _ _ _ h => h) (Or.inl ⟨by kernel_rfl, ?_⟩) hHeld ?_
            rotate_left
            · intro wz hSw; go_simp; try (with_reducible rfl)
            try simp only [Act.put, List.setIfInBounds_toArray, List.set_cons_zero, List.set_cons_succ, List.getElem_toArray, List.getElem_cons_succ, List.getElem_cons_zero]
            refine take_at (some 112) (i := 35) (v := ?_) rfl rfl (by kernel_rfl) (by kernel_rfl) (by kernel_rfl) (fun _ _ _ h => h) (Or.inl ⟨by kernel_rfl, ?_⟩) hHeld ?_
            rotate_left
            · intro wz hSw; obtain ⟨x0, x1, x2⟩ := HC.out wz hSw; go_simp; try (with_reducible rfl)
            try simp only [Act.put, List.setIfInBounds_toArray, List.set_cons_zero, List.set_cons_succ, List.getElem_toArray, List.getElem_cons_succ, List.getElem_cons_zero]
            refine wpAnyH_ready (rs := [29]) (by kernel_rfl) (by simp) (AllReadyH.cons rfl (fun K hK => ?_) AllReadyH.nil)
            rw [if_pos (by kernel_rfl)]
            go_simp
            refine (z_was (HZ3.out.on (((((Below.refl u3.heap.size u3).drew).trans (hb1.mono ((Below.refl u3.heap.size u3).drew).size)).trans (hb2.mono (((Below.refl u3.heap.size u3).drew).trans (hb1.mono ((Below.refl u3.heap.size u3).drew).size)).size)).trans (hb3.mono ((((Below.refl u3.heap.size u3).drew).trans (hb1.mono ((Below.refl u3.heap.size u3).drew).size)).trans (hb2.mono (((Below.refl u3.heap.size u3).drew).trans (hb1.mono ((Below.refl u3.heap.size u3).drew).size)).size)).size))) HE2.out.2.2.2.2 HF2.out ob r2 HRR.out.2).mono ?_
            rintro e y4 ⟨rfl, hb4⟩
            try dsimp only
            refine hK.out _ _ (HZ3.out.l.trans (((((((Below.refl u3.heap.size u3).drew).trans (hb1.mono ((Below.refl u3.heap.size u3).drew).size)).trans (hb2.mono (((Below.refl u3.heap.size u3).drew).trans (hb1.mono ((Below.refl u3.heap.size u3).drew).size)).size)).trans (hb3.mono ((((Below.refl u3.heap.size u3).drew).trans (hb1.mono ((Below.refl u3.heap.size u3).drew).size)).trans (hb2.mono (((Below.refl u3.heap.size u3).drew).trans (hb1.mono ((Below.refl u3.heap.size u3).drew).size)).size)).size)).trans (hb4.mono (((((Below.refl u3.heap.size u3).drew).trans (hb1.mono ((Below.refl u3.heap.size u3).drew).size)).trans (hb2.mono (((Below.refl u3.heap.size u3).drew).trans (hb1.mono ((Below.refl u3.heap.size u3).drew).size)).size)).trans (hb3.mono ((((Below.refl u3.heap.size u3).drew).trans (hb1.mono ((Below.refl u3.heap.size u3).drew).size)).trans (hb2.mono (((Below.refl u3.heap.size u3).drew).trans (hb1.mono ((Below.refl u3.heap.size u3).drew).size)).size)).size)).size)).mono HZ3.out.l.size)) (fun hHeld => ?_)
            try simp only [Act.put, List.setIfInBounds_toArray, List.set_cons_zero, List.set_cons_succ, List.getElem_toArray, List.getElem_cons_succ, List.getElem_cons_zero]
            refine wpAnyH_ready (rs := [36]) (by kernel_rfl) (by simp) (AllReadyH.cons rfl (fun K hK => ?_) AllReadyH.nil)
            rw [if_pos (by kernel_rfl)]
            go_simp
            refine (phas_ok (A5) t.ev (m) (c5) y4 ob (Ow.rw_ (fun _ => rfl) (HX3.out.on ((((((Below.refl u3.heap.size u3).drew).trans (hb1.mono ((Below.refl u3.heap.size u3).drew).size)).trans (hb2.mono (((Below.refl u3.heap.size u3).drew).trans (hb1.mono ((Below.refl u3.heap.size u3).drew).size)).size)).trans (hb3.mono ((((Below.refl u3.heap.size u3).drew).trans (hb1.mono ((Below.refl u3.heap.size u3).drew).size)).trans (hb2.mono (((Below.refl u3.heap.size u3).drew).trans (hb1.mono ((Below.refl u3.heap.size u3).drew).size)).size)).size)).trans (hb4.mono (((((Below.refl u3.heap.size u3).drew).trans (hb1.mono ((Below.refl u3.heap.size u3).drew).size)).trans (hb2.mono (((Below.refl u3.heap.size u3).drew).trans (hb1.mono ((Below.refl u3.heap.size u3).drew).size)).size)).trans (hb3.mono ((((Below.refl u3.heap.size u3).drew).trans (hb1.mono ((Below.refl u3.heap.size u3).drew).size)).trans (hb2.mono (((Below.refl u3.heap.size u3).drew).trans (hb1.mono ((Below.refl u3.heap.size u3).drew).size)).size)).size)).size))).o) HE2.out.1 hm8 r2 HRR.out.2).mono ?_
            rintro e y5 ⟨rfl, hb5⟩
            try dsimp only
            refine hK.out _ _ (HZ3.out.l.trans ((((((((Below.refl u3.heap.size u3).drew).trans (hb1.mono ((Below.refl u3.heap.size u3).drew).size)).trans (hb2.mono (((Below.refl u3.heap.size u3).drew).trans (hb1.mono ((Below.refl u3.heap.size u3).drew).size)).size)).trans (hb3.mono ((((Below.refl u3.heap.size u3).drew).trans (hb1.mono ((Below.refl u3.heap.size u3).drew).size)).trans (hb2.mono (((Below.refl u3.heap.size u3).drew).trans (hb1.mono ((Below.refl u3.heap.size u3).drew).size)).size)).size)).trans (hb4.mono (((((Below.refl u3.heap.size u3).drew).trans (hb1.mono ((Below.refl u3.heap.size u3).drew).size)).trans (hb2.mono (((Below.refl u3.heap.size u3).drew).trans (hb1.mono ((Below.refl u3.heap.size u3).drew).size)).size)).trans (hb3.mono ((((Below.refl u3.heap.size u3).drew).trans (hb1.mono ((Below.refl u3.heap.size u3).drew).size)).trans (hb2.mono (((Below.refl u3.heap.size u3).drew).trans (hb1.mono ((Below.refl u3.heap.size u3).drew).size)).size)).size)).size)).trans (hb5.mono ((((((Below.refl u3.heap.size u3).drew).trans (hb1.mono ((Below.refl u3.heap.size u3).drew).size)).trans (hb2.mono (((Below.refl u3.heap.size u3).drew).trans (hb1.mono ((Below.refl u3.heap.size u3).drew).size)).size)).trans (hb3.mono ((((Below.refl u3.heap.size u3).drew).trans (hb1.mono ((Below.refl u3.heap.size u3).drew).size)).trans (hb2.mono (((Below.refl u3.heap.size u3).drew).trans (hb1.mono ((Below.refl u3.heap.size u3).drew).size)).size)).size)).trans (hb4.mono (((((Below.refl u3.heap.size u3).drew).trans (hb1.mono ((Below.refl u3.heap.size u3).drew).size)).trans (hb2.mono (((Below.refl u3.heap.size u3).drew).trans (hb1.mono ((Below.refl u3.heap.size u3).drew).size)).size)).trans (hb3.mono ((((Below.refl u3.heap.size u3).drew).trans (hb1.mono ((Below.refl u3.heap.size u3).drew).size)).trans (hb2.mono (((Below.refl u3.heap.size u3).drew).trans (hb1.mono ((Below.refl u3.heap.size u3).drew).size)).size)).size)).size)).size)).mono HZ3.out.l.size)) (fun hHeld => ?_)
            try simp only [Act.put, List.setIfInBounds_toArray, List.set_cons_zero, List.set_cons_succ, List.getElem_toArray, List.getElem_cons_succ, List.getElem_cons_zero]
            refine take_at (some 114) (i := 37) (v := ?_) rfl rfl (by kernel_rfl) (by kernel_rfl) (by kernel_rfl) (fun _ _ _ h => h) (Or.inl ⟨by kernel_rfl, ?_⟩) hHeld ?_
            rotate_left
            · intro wz hSw; go_simp; try (with_reducible rfl)
            try simp only [Act.put, List.setIfInBounds_toArray, List.set_cons_zero, List.set_cons_succ, List.getElem_toArray, List.getElem_cons_succ, List.getElem_cons_zero]
            refine take_at (some 115) (i := 38) (v := ?_) rfl rfl (by kernel_rfl) (by kernel_rfl) (by kernel_rfl) (fun _ _ _ h => h) (Or.inl ⟨by kernel_rfl, ?_⟩) hHeld ?_
            rotate_left
            · intro wz hSw; go_simp; try (with_reducible rfl)
            try simp only [Act.put, List.setIfInBounds_toArray, List.set_cons_zero, List.set_cons_succ, List.getElem_toArray, List.getElem_cons_succ, List.getElem_cons_zero]
            refine wpAnyH_done (by kernel_rfl) ?_ _
            have hbb := (((((((Below.refl u3.heap.size u3).drew).trans (hb1.mono ((Below.refl u3.heap.size u3).drew).size)).trans (hb2.mono (((Below.refl u3.heap.size u3).drew).trans (hb1.mono ((Below.refl u3.heap.size u3).drew).size)).size)).trans (hb3.mono ((((Below.refl u3.heap.size u3).drew).trans (hb1.mono ((Below.refl u3.heap.size u3).drew).size)).trans (hb2.mono (((Below.refl u3.heap.size u3).drew).trans (hb1.mono ((Below.refl u3.heap.size u3).drew).size)).size)).size)).trans (hb4.mono (((((Below.refl u3.heap.size u3).drew).trans (hb1.mono ((Below.refl u3.heap.size u3).drew).size)).trans (hb2.mono (((Below.refl u3.heap.size u3).drew).trans (hb1.mono ((Below.refl u3.heap.size u3).drew).size)).size)).trans (hb3.mono ((((Below.refl u3.heap.size u3).drew).trans (hb1.mono ((Below.refl u3.heap.size u3).drew).size)).trans (hb2.mono (((Below.refl u3.heap.size u3).drew).trans (hb1.mono ((Below.refl u3.heap.size u3).drew).size)).size)).size)).size)).trans (hb5.mono ((((((Below.refl u3.heap.size u3).drew).trans (hb1.mono ((Below.refl u3.heap.size u3).drew).size)).trans (hb2.mono (((Below.refl u3.heap.size u3).drew).trans (hb1.mono ((Below.refl u3.heap.size u3).drew).size)).size)).trans (hb3.mono ((((Below.refl u3.heap.size u3).drew).trans (hb1.mono ((Below.refl u3.heap.size u3).drew).size)).trans (hb2.mono (((Below.refl u3.heap.size u3).drew).trans (hb1.mono ((Below.refl u3.heap.size u3).drew).size)).size)).size)).trans (hb4.mono (((((Below.refl u3.heap.size u3).drew).trans (hb1.mono ((Below.refl u3.heap.size u3).drew).size)).trans (hb2.mono (((Below.refl u3.heap.size u3).drew).trans (hb1.mono ((Below.refl u3.heap.size u3).drew).size)).size)).trans (hb3.mono ((((Below.refl u3.heap.size u3).drew).trans (hb1.mono ((Below.refl u3.heap.size u3).drew).size)).trans (hb2.mono (((Below.refl u3.heap.size u3).drew).trans (hb1.mono ((Below.refl u3.heap.size u3).drew).size)).size)).size)).size)).size))
            have HZ9 := Lib.hid (HZ3.out.on hbb)
            have HX9 := Lib.hid (HX3.out.on hbb)
            clear hb1 hb2 hb3 hb4 hb5 hbb hHeld ho1
            go_wp2_with fail
            go_roundw
            case rel => exact ⟨i + 1, m, k, t, _, A5, c5, by omega, rfl, rfl, by go_num, HZ9, HX9, HE2⟩
            case measure => simp [intOf] <;> omega
          · obtain ⟨t2, ht2⟩ : ∃ t2, (⟨insP ⟨oa, ob⟩ t.l, t.ev ++ [oa, ob]⟩ : Tp) = t2 := ⟨_, rfl⟩
            rw [ht2] at hj
            have HJ := Lib.hid hj
            have HG2 := Lib.hid (gp_set HE.out.2.2.2.2 hj)
            have HEV := Lib.hid (show t2.ev = t.ev ++ [oa, ob] by rw [← ht2])
            have HE2 := Lib.hid (show t2.ev.length = m + 2 ∧ t2.l.length = k + 1 ∧ m + 2 ≤ 2 * (i + 1) ∧ k + 1 ≤ i + 1 ∧ Gp t2 from ⟨by rw [HEV.out, List.length_append, HE.out.1]; rfl, by rw [← ht2]; show (insP _ _).length = _; rw [ins_len, HE.out.2.1], by omega, by omega, HG2.out⟩)
            clear hj ht2 hold hbad h2
            go_upto_region 14 with fail
            clear x0 x1 x2
            try simp only [List.cons_append, List.nil_append]
            refine wp_region_held_drew (S := fun wz => Below W.heap.size W wz) (by kernel_rfl) (HZ.out.l.trans (((Below.refl wr.heap.size wr).drew).mono HZ.out.l.size)) (fun hHeld => ?_)
            refine take_at (some 49) (i := 0) (v := ?_) rfl rfl (by kernel_rfl) (by kernel_rfl) (by kernel_rfl) (fun _ _ _ h => h) (Or.inl ⟨by kernel_rfl, ?_⟩) hHeld ?_
            rotate_left
            · intro wz hSw; go_simp; try (with_reducible rfl)
            try simp only [Act.put, List.setIfInBounds_toArray, List.set_cons_zero, List.set_cons_succ, List.getElem_toArray, List.getElem_cons_succ, List.getElem_cons_zero]
            refine take_at (some 50) (i := 1) (v := ?_) rfl rfl (by kernel_rfl) (by kernel_rfl) (by kernel_rfl) (fun _ _ _ h => h) (Or.inl ⟨by kernel_rfl, ?_⟩) hHeld ?_
            rotate_left
            · intro wz hSw; go_simp; try (with_reducible rfl)
            try simp only [Act.put, List.setIfInBounds_toArray, List.set_cons_zero, List.set_cons_succ, List.getElem_toArray, List.getElem_cons_succ, List.getElem_cons_zero]
            refine take_at (some 51) (i := 2) (v := ?_) rfl rfl (by kernel_rfl) (by kernel_rfl) (by kernel_rfl) (fun _ _ _ h => h) (Or.inl ⟨by kernel_rfl, ?_⟩) hHeld ?_
            rotate_left
            · intro wz hSw; go_simp; try (with_reducible rfl)
            try simp only [Act.put, List.setIfInBounds_toArray, List.set_cons_zero, List.set_cons_succ, List.getElem_toArray, List.getElem_cons_succ, List.getElem_cons_zero]
            refine take_at (some 52) (i := 3) (v := ?_) rfl rfl (by kernel_rfl) (by kernel_rfl) (by kernel_rfl) (fun _ _ _ h => h) (Or.inl ⟨by kernel_rfl, ?_⟩) hHeld ?_
            rotate_left
            · intro wz hSw; go_simp; try (with_reducible rfl)
            try simp only [Act.put, List.setIfInBounds_toArray, List.set_cons_zero, List.set_cons_succ, List.getElem_toArray, List.getElem_cons_succ, List.getElem_cons_zero]
            refine take_at (some 53) (i := 4) (v := ?_) rfl rfl (by kernel_rfl) (by kernel_rfl) (by kernel_rfl) (fun _ _ _ h => h) (Or.inl ⟨by kernel_rfl, ?_⟩) hHeld ?_
            rotate_left
            · intro wz hSw; go_simp; try (with_reducible rfl)
            try simp only [Act.put, List.setIfInBounds_toArray, List.set_cons_zero, List.set_cons_succ, List.getElem_toArray, List.getElem_cons_succ, List.getElem_cons_zero]
            refine take_at (some 54) (i := 5) (v := ?_) rfl rfl (by kernel_rfl) (by kernel_rfl) (by kernel_rfl) (fun _ _ _ h => h) (Or.inl ⟨by kernel_rfl, ?_⟩) hHeld ?_
            rotate_left
            · intro wz hSw; obtain ⟨x0, x1, x2⟩ := HC.out wz hSw; go_simp; try (with_reducible rfl)
            try simp only [Act.put, List.setIfInBounds_toArray, List.set_cons_zero, List.set_cons_succ, List.getElem_toArray, List.getElem_cons_succ, List.getElem_cons_zero]
            refine take_at (some 55) (i := 6) (v := ?_) rfl rfl (by kernel_rfl) (by kernel_rfl) (by kernel_rfl) (fun _ _ _ h => h) (Or.inl ⟨by kernel_rfl, ?_⟩) hHeld ?_
            rotate_left
            · intro wz hSw; go_simp; try (with_reducible rfl)
            try simp only [Act.put, List.setIfInBounds_toArray, List.set_cons_zero, List.set_cons_succ, List.getElem_toArray, List.getElem_cons_succ, List.getElem_cons_zero]
            refine take_at (some 56) (i := 7) (v := ?_) rfl rfl (by kernel_rfl) (by kernel_rfl) (by kernel_rfl) (fun _ _ _ h => h) (Or.inl ⟨by kernel_rfl, ?_⟩) hHeld ?_
            rotate_left
            · intro wz hSw; go_simp; try (with_reducible rfl)
            try simp only [Act.put, List.setIfInBounds_toArray, List.set_cons_zero, List.set_cons_succ, List.getElem_toArray, List.getElem_cons_succ, List.getElem_cons_zero]
            refine take_at (some 57) (i := 8) (v := ?_) rfl rfl (by kernel_rfl) (by kernel_rfl) (by kernel_rfl) (fun _ _ _ h => h) (Or.inl ⟨by kernel_rfl, ?_⟩) hHeld ?_
            rotate_left
            · intro wz hSw; go_simp; try (with_reducible rfl)
            try simp only [Act.put, List.setIfInBounds_toArray, List.set_cons_zero, List.set_cons_succ, List.getElem_toArray, List.getElem_cons_succ, List.getElem_cons_zero]
            refine take_at (some 58) (i := 9) (v := ?_) rfl rfl (by kernel_rfl) (by kernel_rfl) (by kernel_rfl) (fun _ _ _ h => h) (Or.inl ⟨by kernel_rfl, ?_⟩) hHeld ?_
            rotate_left
            · intro wz hSw; go_simp; try (with_reducible rfl)
            try simp only [Act.put, List.setIfInBounds_toArray, List.set_cons_zero, List.set_cons_succ, List.getElem_toArray, List.getElem_cons_succ, List.getElem_cons_zero]
            refine take_at (some 59) (i := 10) (v := ?_) rfl rfl (by kernel_rfl) (by kernel_rfl) (by kernel_rfl) (fun _ _ _ h => h) (Or.inl ⟨by kernel_rfl, ?_⟩) hHeld ?_
            rotate_left
            · intro wz hSw; obtain ⟨x0, x1, x2⟩ := HC.out wz hSw; go_simp; try (with_reducible rfl)
            try simp only [Act.put, List.setIfInBounds_toArray, List.set_cons_zero, List.set_cons_succ, List.getElem_toArray, List.getElem_cons_succ, List.getElem_cons_zero]
            refine wpAnyH_ready (rs := [11]) (by kernel_rfl) (by simp) (AllReadyH.cons rfl (fun K hK => ?_) AllReadyH.nil)
            rw [if_pos (by kernel_rfl)]
            go_simp
            refine (z_join (HZ.out.on ((Below.refl wr.heap.size wr).drew)) HE.out.2.2.2.2 HFW.out oa ob 0 t2 HJ.out).mono ?_
            rintro e u3 ⟨H3, rfl, h1, h2⟩
            try dsimp only
            refine hK.out _ _ (h1.l) (fun hHeld => ?_)
            try simp only [Act.put, List.setIfInBounds_toArray, List.set_cons_zero, List.set_cons_succ, List.getElem_toArray, List.getElem_cons_succ, List.getElem_cons_zero]
            refine take_at (some 61) (i := 12) (v := ?_) rfl rfl (by kernel_rfl) (by kernel_rfl) (by kernel_rfl) (fun _ _ _ h => h) (Or.inl ⟨by kernel_rfl, ?_⟩) hHeld ?_
            rotate_left
            · intro wz hSw; go_simp; try (with_reducible rfl)
            try simp only [Act.put, List.setIfInBounds_toArray, List.set_cons_zero, List.set_cons_succ, List.getElem_toArray, List.getElem_cons_succ, List.getElem_cons_zero]
            refine wpAnyH_done (by kernel_rfl) ?_ _
            have HZ3 := Lib.hid h1
            have HX3 := Lib.hid ((HX.out.on ((Below.refl wr.heap.size wr).drew)).step h2)
            clear h1 h2 hHeld
            have hw1 : IntKind.i64.wrap ((k : Int) + 1) = ((k + 1 : Nat) : Int) := by rw [IntKind.wrap_i64]; omega
            go_upto_region 16 with fail
            try rw [hw1]
            clear hw1
            obtain ⟨u5, hu5⟩ : ∃ q, u3.drew = q := ⟨_, rfl⟩
            have hbd : Below u3.heap.size u3 u5 := by rw [← hu5]; exact (Below.refl _ _).drew
            have HZ5 := Lib.hid (HZ3.out.on hbd)
            have HX5 := Lib.hid (HX3.out.on hbd)
            have HOA := Lib.hid (HX5.out.o.on ((Below.refl u5.heap.size u5).alloc (Nat.le_refl _) (.cells #[.int .i64 oa, .int .i64 ob] 3)))
            have HRE := Lib.hid (two_pi u5 oa ob)
            have HSE := Lib.hid (show Below W.heap.size W (u5.alloc (.cells #[.int .i64 oa, .int .i64 ob] 3)) from HZ5.out.l.trans (((Below.refl u5.heap.size u5).alloc (Nat.le_refl _) _).mono HZ5.out.l.size))
            clear hbd
            try simp only [List.cons_append, List.nil_append]
            refine wp_region_held_drew (S := fun wz => Below W.heap.size W wz) (by kernel_rfl) (HZ3.out.l.trans (((Below.refl u3.heap.size u3).drew).mono HZ3.out.l.size)) (fun hHeld => ?_)
            refine take_at (some 64) (i := 0) (v := ?_) rfl rfl (by kernel_rfl) (by kernel_rfl) (by kernel_rfl) (fun _ _ _ h => h) (Or.inl ⟨by kernel_rfl, ?_⟩) hHeld ?_
            rotate_left
            · intro wz hSw; go_simp; try (with_reducible rfl)
            try simp only [Act.put, List.setIfInBounds_toArray, List.set_cons_zero, List.set_cons_succ, List.getElem_toArray, List.getElem_cons_succ, List.getElem_cons_zero]
            refine take_at (some 65) (i := 1) (v := ?_) rfl rfl (by kernel_rfl) (by kernel_rfl) (by kernel_rfl) (fun _ _ _ h => h) (Or.inl ⟨by kernel_rfl, ?_⟩) hHeld ?_
            rotate_left
            · intro wz hSw; go_simp; try (with_reducible rfl)
            try simp only [Act.put, List.setIfInBounds_toArray, List.set_cons_zero, List.set_cons_succ, List.getElem_toArray, List.getElem_cons_succ, List.getElem_cons_zero]
            refine take_at (some 66) (i := 2) (v := ?_) rfl rfl (by kernel_rfl) (by kernel_rfl) (by kernel_rfl) (fun _ _ _ h => h) (Or.inl ⟨by kernel_rfl, ?_⟩) hHeld ?_
            rotate_left
            · intro wz hSw; go_simp; try (with_reducible rfl)
            try simp only [Act.put, List.setIfInBounds_toArray, List.set_cons_zero, List.set_cons_succ, List.getElem_toArray, List.getElem_cons_succ, List.getElem_cons_zero]
            refine take_at (some 67) (i := 3) (v := ?_) rfl rfl (by kernel_rfl) (by kernel_rfl) (by kernel_rfl) (fun _ _ _ h => h) (Or.inl ⟨by kernel_rfl, ?_⟩) hHeld ?_
            rotate_left
            · intro wz hSw; go_simp; try (with_reducible rfl)
            try simp only [Act.put, List.setIfInBounds_toArray, List.set_cons_zero, List.set_cons_succ, List.getElem_toArray, List.getElem_cons_succ, List.getElem_cons_zero]
            refine take_at (some 68) (i := 4) (v := ?_) rfl rfl (by kernel_rfl) (by kernel_rfl) (by kernel_rfl) (fun _ _ _ h => h) (Or.inl ⟨by kernel_rfl, ?_⟩) hHeld ?_
            rotate_left
            · intro wz hSw; go_simp; try (with_reducible rfl)
            try simp only [Act.put, List.setIfInBounds_toArray, List.set_cons_zero, List.set_cons_succ, List.getElem_toArray, List.getElem_cons_succ, List.getElem_cons_zero]
            refine take_at (some 69) (i := 5) (v := ?_) rfl rfl (by kernel_rfl) (by kernel_rfl) (by kernel_rfl) (fun _ _ _ h => h) (Or.inl ⟨by kernel_rfl, ?_⟩) hHeld ?_
            rotate_left
            · intro wz hSw; obtain ⟨x0, x1, x2⟩ := HC.out wz hSw; go_simp; try (with_reducible rfl)
            try simp only [Act.put, List.setIfInBounds_toArray, List.set_cons_zero, List.set_cons_succ, List.getElem_toArray, List.getElem_cons_succ, List.getElem_cons_zero]
            refine take_at (some 70) (i := 6) (v := ?_) rfl rfl (by kernel_rfl) (by kernel_rfl) (by kernel_rfl) (fun _ _ _ h => h) (Or.inl ⟨by kernel_rfl, ?_⟩) hHeld ?_
            rotate_left
            · intro wz hSw; go_simp; try (with_reducible rfl)
            try simp only [Act.put, List.setIfInBounds_toArray, List.set_cons_zero, List.set_cons_succ, List.getElem_toArray, List.getElem_cons_succ, List.getElem_cons_zero]
            refine take_at (some 71) (i := 7) (v := ?_) rfl rfl (by kernel_rfl) (by kernel_rfl) (by kernel_rfl) (fun _ _ _ h => h) (Or.inl ⟨by kernel_rfl, ?_⟩) hHeld ?_
            rotate_left
            · intro wz hSw; go_simp; try (with_reducible rfl)
            try simp only [Act.put, List.setIfInBounds_toArray, List.set_cons_zero, List.set_cons_succ, List.getElem_toArray, List.getElem_cons_succ, List.getElem_cons_zero]
            refine take_at (some 72) (i := 8) (v := ?_) rfl rfl (by kernel_rfl) (by kernel_rfl) (by kernel_rfl) (fun _ _ _ h => h) (Or.inl ⟨by kernel_rfl, ?_⟩) hHeld ?_
            rotate_left
            · intro wz hSw; go_simp; try (with_reducible rfl)
            try simp only [Act.put, List.setIfInBounds_toArray, List.set_cons_zero, List.set_cons_succ, List.getElem_toArray, List.getElem_cons_succ, List.getElem_cons_zero]
            refine take_at (some 73) (i := 9) (v := ?_) rfl rfl (by kernel_rfl) (by kernel_rfl) (by kernel_rfl) (fun _ _ _ h => h) (Or.inl ⟨by kernel_rfl, ?_⟩) hHeld ?_
            rotate_left
            · intro wz hSw; go_simp; try (with_reducible rfl)
            try simp only [Act.put, List.setIfInBounds_toArray, List.set_cons_zero, List.set_cons_succ, List.getElem_toArray, List.getElem_cons_succ, List.getElem_cons_zero]
            refine take_at (some 74) (i := 10) (v := ?_) rfl rfl (by kernel_rfl) (by kernel_rfl) (by kernel_rfl) (fun _ _ _ h => h) (Or.inl ⟨by kernel_rfl, ?_⟩) hHeld ?_
            rotate_left
            · intro wz hSw; obtain ⟨x0, x1, x2⟩ := HC.out wz hSw; go_simp; try (with_reducible rfl)
            try simp only [Act.put, List.setIfInBounds_toArray, List.set_cons_zero, List.set_cons_succ, List.getElem_toArray, List.getElem_cons_succ, List.getElem_cons_zero]
            try rw [hu5]
            clear hu5
            refine wpAnyH_ready (rs := [11]) (by kernel_rfl) (by simp) (AllReadyH.cons rfl (fun K hK => ?_) AllReadyH.nil)
            rw [if_pos (by kernel_rfl)]
            go_simp
            try dsimp only
            refine hK.out _ _ HSE.out (fun hHeld => ?_)
            try simp only [Act.put, List.setIfInBounds_toArray, List.set_cons_zero, List.set_cons_succ, List.getElem_toArray, List.getElem_cons_succ, List.getElem_cons_zero]
            refine wpAnyH_ready (rs := [12]) (by kernel_rfl) (by simp) (AllReadyH.cons rfl (fun K hK => ?_) AllReadyH.nil)
            rw [if_pos (by kernel_rfl)]
            refine op_rowsM_at roPI (.tmp 64) (.tmp 75) rfl m rfl HE.out.1 HOA.out [oa, ob] 2 u5.heap.size 2 rfl (by omega) rfl HRE.out (by omega) HSE.out.size (m + 2) rfl ?_
            intro g7 d7 w7 ho hg hb hat
            have HY := Lib.hid (Lrk.app HX5.out HZ5.out.hi HE.out.1 ho hg hat)
            have HZ7 := Lib.hid (HY.out.2.zp HZ5.out (fun y hy => hy))
            clear ho hg hb hat
            refine hK.out _ _ HZ7.out.l (fun hHeld => ?_)
            try simp only [Act.put, List.setIfInBounds_toArray, List.set_cons_zero, List.set_cons_succ, List.getElem_toArray, List.getElem_cons_succ, List.getElem_cons_zero]
            refine take_at (some 6) (i := 13) (v := ?_) rfl rfl (by kernel_rfl) (by kernel_rfl) (by kernel_rfl) (fun _ _ _ h => h) (Or.inl ⟨by kernel_rfl, ?_⟩) hHeld ?_
            rotate_left
            · intro wz hSw; go_simp; try (with_reducible rfl)
            try simp only [Act.put, List.setIfInBounds_toArray, List.set_cons_zero, List.set_cons_succ, List.getElem_toArray, List.getElem_cons_succ, List.getElem_cons_zero]
            refine wpAnyH_done (by kernel_rfl) ?_ _
            have HX7 := Lib.hid (show Lrk 3 1 piv W w7 H3 (some ⟨g7, 0, none⟩) d7 t2.ev by rw [HEV.out]; exact HY.out.1)
            clear hHeld
            go_upto_region 17 with fail
            obtain ⟨r1, hr1⟩ : ∃ r, decide (oa ∈ t2.ev) = r := ⟨_, rfl⟩
            obtain ⟨r2, hr2⟩ : ∃ r, decide (ob ∈ t2.ev) = r := ⟨_, rfl⟩
            have HRR := Lib.hid (And.intro hr1 hr2)
            have hq1 : (r1 != r1) = false := by simp
            have hq2 : (r2 != r2) = false := by simp
            have hkk : (((k + 1 : Nat) : Int) != ((k + 1 : Nat) : Int)) = false := by simp
            clear hr1 hr2
            have HF2 := Lib.hid (show t2.l.length ≤ 1000 ∧ t2.ev.length ≤ 2000 from ⟨by have := HE2.out.2.1; have := HE2.out.2.2.2.1; omega, by have := HE2.out.1; have := HE2.out.2.2.1; omega⟩)
            have hm8 : m + 2 ≤ 1000000 := by have := HE2.out.2.2.1; omega
            try simp only [List.cons_append, List.nil_append]
            refine wp_region_held_drew (S := fun wz => Below W.heap.size W wz) (by kernel_rfl) (HZ7.out.l.trans (((Below.refl w7.heap.size w7).drew).mono HZ7.out.l.size)) (fun hHeld => ?_)
            refine take_at (some 77) (i := 0) (v := ?_) rfl rfl (by kernel_rfl) (by kernel_rfl) (by kernel_rfl) (fun _ _ _ h => h) (Or.inl ⟨by kernel_rfl, ?_⟩) hHeld ?_
            rotate_left
            · intro wz hSw; go_simp; try (with_reducible rfl)
            try simp only [Act.put, List.setIfInBounds_toArray, List.set_cons_zero, List.set_cons_succ, List.getElem_toArray, List.getElem_cons_succ, List.getElem_cons_zero]
            refine take_at (some 80) (i := 3) (v := ?_) rfl rfl (by kernel_rfl) (by kernel_rfl) (by kernel_rfl) (fun _ _ _ h => h) (Or.inl ⟨by kernel_rfl, ?_⟩) hHeld ?_
            rotate_left
            · intro wz hSw; go_simp; try (with_reducible rfl)
            try simp only [Act.put, List.setIfInBounds_toArray, List.set_cons_zero, List.set_cons_succ, List.getElem_toArray, List.getElem_cons_succ, List.getElem_cons_zero]
            refine wpAnyH_ready (rs := [1]) (by kernel_rfl) (by simp) (AllReadyH.cons rfl (fun K hK => ?_) AllReadyH.nil)
            rw [if_pos (by kernel_rfl)]
            go_simp
            refine (z_all (HZ7.out.on ((Below.refl w7.heap.size w7).drew)) HE2.out.2.2.2.2 HF2.out (k + 1) HE2.out.2.1).mono ?_
            rintro e y1 ⟨A8, c8, rfl, ho1, hb1⟩
            try dsimp only
            refine hK.out _ _ (HZ7.out.l.trans ((((Below.refl w7.heap.size w7).drew).trans (hb1.mono ((Below.refl w7.heap.size w7).drew).size)).mono HZ7.out.l.size)) (fun hHeld => ?_)
            try simp only [Act.put, List.setIfInBounds_toArray, List.set_cons_zero, List.set_cons_succ, List.getElem_toArray, List.getElem_cons_succ, List.getElem_cons_zero]
            refine take_at (some 79) (i := 2) (v := ?_) rfl rfl (by kernel_rfl) (by kernel_rfl) (by kernel_rfl) (fun _ _ _ h => h) (Or.inl ⟨by kernel_rfl, ?_⟩) hHeld ?_
            rotate_left
            · intro wz hSw; go_simp; try (with_reducible rfl)
            try simp only [Act.put, List.setIfInBounds_toArray, List.set_cons_zero, List.set_cons_succ, List.getElem_toArray, List.getElem_cons_succ, List.getElem_cons_zero]
            refine take_at (some 81) (i := 4) (v := ?_) rfl rfl (by kernel_rfl) (by kernel_rfl) (by kernel_rfl) (fun _ _ _ h => h) (Or.inl ⟨by kernel_rfl, ?_⟩) hHeld ?_
            rotate_left
            · intro wz hSw; go_simp; try (with_reducible rfl)
            try simp only [Act.put, List.setIfInBounds_toArray, List.set_cons_zero, List.set_cons_succ, List.getElem_toArray, List.getElem_cons_succ, List.getElem_cons_zero]
            refine take_at (some 82) (i := 5) (v := ?_) rfl rfl (by kernel_rfl) (by kernel_rfl) (by kernel_rfl) (fun _ _ _ h => h) (Or.inl ⟨by kernel_rfl, ?_⟩) hHeld ?_
            rotate_left
            · intro wz hSw; go_simp; try (with_reducible rfl)
            try simp only [Act.put, List.setIfInBounds_toArray, List.set_cons_zero, List.set_cons_succ, List.getElem_toArray, List.getElem_cons_succ, List.getElem_cons_zero]
            refine take_at (some 83) (i := 6) (v := ?_) rfl rfl (by kernel_rfl) (by kernel_rfl) (by kernel_rfl) (fun _ _ _ h => h) (Or.inl ⟨by kernel_rfl, ?_⟩) hHeld ?_
            rotate_left
            · intro wz hSw; go_simp; try (with_reducible rfl)
            try simp only [Act.put, List.setIfInBounds_toArray, List.set_cons_zero, List.set_cons_succ, List.getElem_toArray, List.getElem_cons_succ, List.getElem_cons_zero]
            refine take_at (some 84) (i := 7) (v := ?_) rfl rfl (by kernel_rfl) (by kernel_rfl) (by kernel_rfl) (fun _ _ _ h => h) (Or.inl ⟨by kernel_rfl, ?_⟩) hHeld ?_
            rotate_left
            · intro wz hSw; go_simp; try (with_reducible rfl)
            try simp only [Act.put, List.setIfInBounds_toArray, List.set_cons_zero, List.set_cons_succ, List.getElem_toArray, List.getElem_cons_succ, List.getElem_cons_zero]
            refine take_at (some 85) (i := 8) (v := ?_) rfl rfl (by kernel_rfl) (by kernel_rfl) (by kernel_rfl) (fun _ _ _ h => h) (Or.inl ⟨by kernel_rfl, ?_⟩) hHeld ?_
            rotate_left
            · intro wz hSw; go_simp; try (with_reducible rfl)
            try simp only [Act.put, List.setIfInBounds_toArray, List.set_cons_zero, List.set_cons_succ, List.getElem_toArray, List.getElem_cons_succ, List.getElem_cons_zero]
            refine take_at (some 86) (i := 9) (v := ?_) rfl rfl (by kernel_rfl) (by kernel_rfl) (by kernel_rfl) (fun _ _ _ h => h) (Or.inl ⟨by kernel_rfl, ?_⟩) hHeld ?_
            rotate_left
            · intro wz hSw; go_simp; try (with_reducible rfl)
            try simp only [Act.put, List.setIfInBounds_toArray, List.set_cons_zero, List.set_cons_succ, List.getElem_toArray, List.getElem_cons_succ, List.getElem_cons_zero]
            refine take_at (some 87) (i := 10) (v := ?_) rfl rfl (by kernel_rfl) (by kernel_rfl) (by kernel_rfl) (fun _ _ _ h => h) (Or.inl ⟨by kernel_rfl, ?_⟩) hHeld ?_
            rotate_left
            · intro wz hSw; go_simp; try (with_reducible rfl)
            try simp only [Act.put, List.setIfInBounds_toArray, List.set_cons_zero, List.set_cons_succ, List.getElem_toArray, List.getElem_cons_succ, List.getElem_cons_zero]
            refine take_at (some 88) (i := 11) (v := ?_) rfl rfl (by kernel_rfl) (by kernel_rfl) (by kernel_rfl) (fun _ _ _ h => h) (Or.inl ⟨by kernel_rfl, ?_⟩) hHeld ?_
            rotate_left
            · intro wz hSw; obtain ⟨x0, x1, x2⟩ := HC.out wz hSw; go_simp; try (with_reducible rfl)
            try simp only [Act.put, List.setIfInBounds_toArray, List.set_cons_zero, List.set_cons_succ, List.getElem_toArray, List.getElem_cons_succ, List.getElem_cons_zero]
            refine take_at (some 90) (i := 13) (v := ?_) rfl rfl (by kernel_rfl) (by kernel_rfl) (by kernel_rfl) (fun _ _ _ h => h) (Or.inl ⟨by kernel_rfl, ?_⟩) hHeld ?_
            rotate_left
            · intro wz hSw; go_simp; try (with_reducible rfl)
            try simp only [Act.put, List.setIfInBounds_toArray, List.set_cons_zero, List.set_cons_succ, List.getElem_toArray, List.getElem_cons_succ, List.getElem_cons_zero]
            refine take_at (some 91) (i := 14) (v := ?_) rfl rfl (by kernel_rfl) (by kernel_rfl) (by kernel_rfl) (fun _ _ _ h => h) (Or.inl ⟨by kernel_rfl, ?_⟩) hHeld ?_
            rotate_left
            · intro wz hSw; go_simp; try (with_reducible rfl)
            try simp only [Act.put, List.setIfInBounds_toArray, List.set_cons_zero, List.set_cons_succ, List.getElem_toArray, List.getElem_cons_succ, List.getElem_cons_zero]
            refine take_at (some 92) (i := 15) (v := ?_) rfl rfl (by kernel_rfl) (by kernel_rfl) (by kernel_rfl) (fun _ _ _ h => h) (Or.inl ⟨by kernel_rfl, ?_⟩) hHeld ?_
            rotate_left
            · intro wz hSw; go_simp; try (with_reducible rfl)
            try simp only [Act.put, List.setIfInBounds_toArray, List.set_cons_zero, List.set_cons_succ, List.getElem_toArray, List.getElem_cons_succ, List.getElem_cons_zero]
            refine take_at (some 93) (i := 16) (v := ?_) rfl rfl (by kernel_rfl) (by kernel_rfl) (by kernel_rfl) (fun _ _ _ h => h) (Or.inl ⟨by kernel_rfl, ?_⟩) hHeld ?_
            rotate_left
            · intro wz hSw; go_simp; try (with_reducible rfl)
            try simp only [Act.put, List.setIfInBounds_toArray, List.set_cons_zero, List.set_cons_succ, List.getElem_toArray, List.getElem_cons_succ, List.getElem_cons_zero]
            refine take_at (some 94) (i := 17) (v := ?_) rfl rfl (by kernel_rfl) (by kernel_rfl) (by kernel_rfl) (fun _ _ _ h => h) (Or.inl ⟨by kernel_rfl, ?_⟩) hHeld ?_
            rotate_left
            · intro wz hSw; go_simp; try (with_reducible rfl)
            try simp only [Act.put, List.setIfInBounds_toArray, List.set_cons_zero, List.set_cons_succ, List.getElem_toArray, List.getElem_cons_succ, List.getElem_cons_zero]
            refine take_at (some 95) (i := 18) (v := ?_) rfl rfl (by kernel_rfl) (by kernel_rfl) (by kernel_rfl) (fun _ _ _ h => h) (Or.inl ⟨by kernel_rfl, ?_⟩) hHeld ?_
            rotate_left
            · intro wz hSw; obtain ⟨x0, x1, x2⟩ := HC.out wz hSw; go_simp; try (with_reducible rfl)
            try simp only [Act.put, List.setIfInBounds_toArray, List.set_cons_zero, List.set_cons_succ, List.getElem_toArray, List.getElem_cons_succ, List.getElem_cons_zero]
            refine wpAnyH_ready (rs := [12]) (by kernel_rfl) (by simp) (AllReadyH.cons rfl (fun K hK => ?_) AllReadyH.nil)
            rw [if_pos (by kernel_rfl)]
            go_simp
            refine (z_was (HZ7.out.on (((Below.refl w7.heap.size w7).drew).trans (hb1.mono ((Below.refl w7.heap.size w7).drew).size))) HE2.out.2.2.2.2 HF2.out oa r1 HRR.out.1).mono ?_
            rintro e y2 ⟨rfl, hb2⟩
            try dsimp only
            refine hK.out _ _ (HZ7.out.l.trans (((((Below.refl w7.heap.size w7).drew).trans (hb1.mono ((Below.refl w7.heap.size w7).drew).size)).trans (hb2.mono (((Below.refl w7.heap.size w7).drew).trans (hb1.mono ((Below.refl w7.heap.size w7).drew).size)).size)).mono HZ7.out.l.size)) (fun hHeld => ?_)
            try simp only [Act.put, List.setIfInBounds_toArray, List.set_cons_zero, List.set_cons_succ, List.getElem_toArray, List.getElem_cons_succ, List.getElem_cons_zero]
            refine wpAnyH_ready (rs := [19]) (by kernel_rfl) (by simp) (AllReadyH.cons rfl (fun K hK => ?_) AllReadyH.nil)
            rw [if_pos (by kernel_rfl)]
            go_simp
            refine (phas_ok (some ⟨g7, 0, none⟩) t2.ev (m + 2) (d7) y2 oa (Ow.rw_ (fun _ => rfl) (HX7.out.on ((((Below.refl w7.heap.size w7).drew).trans (hb1.mono ((Below.refl w7.heap.size w7).drew).size)).trans (hb2.mono (((Below.refl w7.heap.size w7).drew).trans (hb1.mono ((Below.refl w7.heap.size w7).drew).size)).size))).o) HE2.out.1 hm8 r1 HRR.out.1).mono ?_
            rintro e y3 ⟨rfl, hb3⟩
            try dsimp only
            refine hK.out _ _ (HZ7.out.l.trans ((((((Below.refl w7.heap.size w7).drew).trans (hb1.mono ((Below.refl w7.heap.size w7).drew).size)).trans (hb2.mono (((Below.refl w7.heap.size w7).drew).trans (hb1.mono ((Below.refl w7.heap.size w7).drew).size)).size)).trans (hb3.mono ((((Below.refl w7.heap.size w7).drew).trans (hb1.mono ((Below.refl w7.heap.size w7).drew).size)).trans (hb2.mono (((Below.refl w7.heap.size w7).drew).trans (hb1.mono ((Below.refl w7.heap.size w7).drew).size)).size)).size)).mono HZ7.out.l.size)) (fun hHeld => ?_)
            try simp only [Act.put, List.setIfInBounds_toArray, List.set_cons_zero, List.set_cons_succ, List.getElem_toArray, List.getElem_cons_succ, List.getElem_cons_zero]
            refine take_at (some 97) (i := 20) (v := ?_) rfl rfl (by kernel_rfl) (by kernel_rfl) (by kernel_rfl) (fun _ _ _ h => h) (Or.inl ⟨by kernel_rfl, ?_⟩) hHeld ?_
            rotate_left
            · intro wz hSw; go_simp; try (with_reducible rfl)
            try simp only [Act.put, List.setIfInBounds_toArray, List.set_cons_zero, List.set_cons_succ, List.getElem_toArray, List.getElem_cons_succ, List.getElem_cons_zero]
            refine take_at (some 98) (i := 21) (v := ?_) rfl rfl (by kernel_rfl) (by kernel_rfl) (by kernel_rfl) (fun _ _ _ h => h) (Or.inl ⟨by kernel_rfl, ?_⟩) hHeld ?_
            rotate_left
            · intro wz hSw; go_simp; try (with_reducible rfl)
            try simp only [Act.put, List.setIfInBounds_toArray, List.set_cons_zero, List.set_cons_succ, List.getElem_toArray, List.getElem_cons_succ, List.getElem_cons_zero]
            refine take_at (some 99) (i := 22) (v := ?_) rfl rfl (by kernel_rfl) (by kernel_rfl) (by kernel_rfl) (fun _ _ _ h => h) (Or.inl ⟨by kernel_rfl, ?_⟩) hHeld ?_
            rotate_left
            · intro wz hSw; go_simp; try (with_reducible rfl)
            try simp only [Act.put, List.setIfInBounds_toArray, List.set_cons_zero, List.set_cons_succ, List.getElem_toArray, List.getElem_cons_succ, List.getElem_cons_zero]
            refine take_at (some 100) (i := 23) (v := ?_) rfl rfl (by kernel_rfl) (by kernel_rfl) (by kernel_rfl) (fun _ _ _ h => h) (Or.inl ⟨by kernel_rfl, ?_⟩) hHeld ?_
            rotate_left
            · intro wz hSw; go_simp; try (with_reducible rfl)
            try simp only [Act.put, List.setIfInBounds_toArray, List.set_cons_zero, List.set_cons_succ, List.getElem_toArray, List.getElem_cons_succ, List.getElem_cons_zero]
            refine take_at (some 101) (i := 24) (v := ?_) rfl rfl (by kernel_rfl) (by kernel_rfl) (by kernel_rfl) (fun _ _ _ h => h) (Or.inl ⟨by kernel_rfl, ?_⟩) hHeld ?_
            rotate_left
            · intro wz hSw; go_simp; try (with_reducible rfl)
            try simp only [Act.put, List.setIfInBounds_toArray, List.set_cons_zero, List.set_cons_succ, List.getElem_toArray, List.getElem_cons_succ, List.getElem_cons_zero]
            refine take_at (some 102) (i := 25) (v := ?_) rfl rfl (by kernel_rfl) (by kernel_rfl) (by kernel_rfl) (fun _ _ _ h => h) (Or.inl ⟨by kernel_rfl, ?_⟩) hHeld ?_
            rotate_left
            · intro wz hSw; go_simp; try (with_reducible rfl)
            try simp only [Act.put, List.setIfInBounds_toArray, List.set_cons_zero, List.set_cons_succ, List.getElem_toArray, List.getElem_cons_succ, List.getElem_cons_zero]
            refine take_at (some 103) (i := 26) (v := ?_) rfl rfl (by kernel_rfl) (by kernel_rfl) (by kernel_rfl) (fun _ _ _ h => h) (Or.inl ⟨by kernel_rfl, ?_⟩) hHeld ?_
            rotate_left
            · intro wz hSw; go_simp; try (with_reducible rfl)
            try simp only [Act.put, List.setIfInBounds_toArray, List.set_cons_zero, List.set_cons_succ, List.getElem_toArray, List.getElem_cons_succ, List.getElem_cons_zero]
            refine take_at (some 104) (i := 27) (v := ?_) rfl rfl (by kernel_rfl) (by kernel_rfl) (by kernel_rfl) (fun _ _ _ h => h) (Or.inl ⟨by kernel_rfl, ?_⟩) hHeld ?_
            rotate_left
            · intro wz hSw; go_simp; try (with_reducible rfl)
            try simp only [Act.put, List.setIfInBounds_toArray, List.set_cons_zero, List.set_cons_succ, List.getElem_toArray, List.getElem_cons_succ, List.getElem_cons_zero]
            refine take_at (some 105) (i := 28) (v := ?_) rfl rfl (by kernel_rfl) (by kernel_rfl) (by kernel_rfl) (fun _ _ _ h => h) (Or.inl ⟨by kernel_rfl, ?_⟩) hHeld ?_
            rotate_left
            · intro wz hSw; obtain ⟨x0, x1, x2⟩ := HC.out wz hSw; go_simp; try (with_reducible rfl)
            try simp only [Act.put, List.setIfInBounds_toArray, List.set_cons_zero, List.set_cons_succ, List.getElem_toArray, List.getElem_cons_succ, List.getElem_cons_zero]
            refine take_at (some 107) (i := 30) (v := ?_) rfl rfl (by kernel_rfl) (by kernel_rfl) (by kernel_rfl) (fun _ _ _ h => h) (Or.inl ⟨by kernel_rfl, ?_⟩) hHeld ?_
            rotate_left
            · intro wz hSw; go_simp; try (with_reducible rfl)
            try simp only [Act.put, List.setIfInBounds_toArray, List.set_cons_zero, List.set_cons_succ, List.getElem_toArray, List.getElem_cons_succ, List.getElem_cons_zero]
            refine take_at (some 108) (i := 31) (v := ?_) rfl rfl (by kernel_rfl) (by kernel_rfl) (by kernel_rfl) (fun _ _ _ h => h) (Or.inl ⟨by kernel_rfl, ?_⟩) hHeld ?_
            rotate_left
            · intro wz hSw; go_simp; try (with_reducible rfl)
            try simp only [Act.put, List.setIfInBounds_toArray, List.set_cons_zero, List.set_cons_succ, List.getElem_toArray, List.getElem_cons_succ, List.getElem_cons_zero]
            refine take_at (some 109) (i := 32) (v := ?_) rfl rfl (by kernel_rfl) (by kernel_rfl) (by kernel_rfl) (fun _ _ _ h => h) (Or.inl ⟨by kernel_rfl, ?_⟩) hHeld ?_
            rotate_left
            · intro wz hSw; go_simp; try (with_reducible rfl)
            try simp only [Act.put, List.setIfInBounds_toArray, List.set_cons_zero, List.set_cons_succ, List.getElem_toArray, List.getElem_cons_succ, List.getElem_cons_zero]
            refine take_at (some 110) (i := 33) (v := ?_) rfl rfl (by kernel_rfl) (by kernel_rfl) (by kernel_rfl) (fun _ _ _ h => h) (Or.inl ⟨by kernel_rfl, ?_⟩) hHeld ?_
            rotate_left
            · intro wz hSw; go_simp; try (with_reducible rfl)
            try simp only [Act.put, List.setIfInBounds_toArray, List.set_cons_zero, List.set_cons_succ, List.getElem_toArray, List.getElem_cons_succ, List.getElem_cons_zero]
            refine take_at (some 111) (i := 34) (v := ?_) rfl rfl (by kernel_rfl) (by kernel_rfl) (by kernel_rfl) (fun _ _ _ h => h) (Or.inl ⟨by kernel_rfl, ?_⟩) hHeld ?_
            rotate_left
            · intro wz hSw; go_simp; try (with_reducible rfl)
            try simp only [Act.put, List.setIfInBounds_toArray, List.set_cons_zero, List.set_cons_succ, List.getElem_toArray, List.getElem_cons_succ, List.getElem_cons_zero]
            refine take_at (some 112) (i := 35) (v := ?_) rfl rfl (by kernel_rfl) (by kernel_rfl) (by kernel_rfl) (fun _ _ _ h => h) (Or.inl ⟨by kernel_rfl, ?_⟩) hHeld ?_
            rotate_left
            · intro wz hSw; obtain ⟨x0, x1, x2⟩ := HC.out wz hSw; go_simp; try (with_reducible rfl)
            try simp only [Act.put, List.setIfInBounds_toArray, List.set_cons_zero, List.set_cons_succ, List.getElem_toArray, List.getElem_cons_succ, List.getElem_cons_zero]
            refine wpAnyH_ready (rs := [29]) (by kernel_rfl) (by simp) (AllReadyH.cons rfl (fun K hK => ?_) AllReadyH.nil)
            rw [if_pos (by kernel_rfl)]
            go_simp
            refine (z_was (HZ7.out.on (((((Below.refl w7.heap.size w7).drew).trans (hb1.mono ((Below.refl w7.heap.size w7).drew).size)).trans (hb2.mono (((Below.refl w7.heap.size w7).drew).trans (hb1.mono ((Below.refl w7.heap.size w7).drew).size)).size)).trans (hb3.mono ((((Below.refl w7.heap.size w7).drew).trans (hb1.mono ((Below.refl w7.heap.size w7).drew).size)).trans (hb2.mono (((Below.refl w7.heap.size w7).drew).trans (hb1.mono ((Below.refl w7.heap.size w7).drew).size)).size)).size))) HE2.out.2.2.2.2 HF2.out ob r2 HRR.out.2).mono ?_
            rintro e y4 ⟨rfl, hb4⟩
            try dsimp only
            refine hK.out _ _ (HZ7.out.l.trans (((((((Below.refl w7.heap.size w7).drew).trans (hb1.mono ((Below.refl w7.heap.size w7).drew).size)).trans (hb2.mono (((Below.refl w7.heap.size w7).drew).trans (hb1.mono ((Below.refl w7.heap.size w7).drew).size)).size)).trans (hb3.mono ((((Below.refl w7.heap.size w7).drew).trans (hb1.mono ((Below.refl w7.heap.size w7).drew).size)).trans (hb2.mono (((Below.refl w7.heap.size w7).drew).trans (hb1.mono ((Below.refl w7.heap.size w7).drew).size)).size)).size)).trans (hb4.mono (((((Below.refl w7.heap.size w7).drew).trans (hb1.mono ((Below.refl w7.heap.size w7).drew).size)).trans (hb2.mono (((Below.refl w7.heap.size w7).drew).trans (hb1.mono ((Below.refl w7.heap.size w7).drew).size)).size)).trans (hb3.mono ((((Below.refl w7.heap.size w7).drew).trans (hb1.mono ((Below.refl w7.heap.size w7).drew).size)).trans (hb2.mono (((Below.refl w7.heap.size w7).drew).trans (hb1.mono ((Below.refl w7.heap.size w7).drew).size)).size)).size)).size)).mono HZ7.out.l.size)) (fun hHeld => ?_)
            try simp only [Act.put, List.setIfInBounds_toArray, List.set_cons_zero, List.set_cons_succ, List.getElem_toArray, List.getElem_cons_succ, List.getElem_cons_zero]
            refine wpAnyH_ready (rs := [36]) (by kernel_rfl) (by simp) (AllReadyH.cons rfl (fun K hK => ?_) AllReadyH.nil)
            rw [if_pos (by kernel_rfl)]
            go_simp
            refine (phas_ok (some ⟨g7, 0, none⟩) t2.ev (m + 2) (d7) y4 ob (Ow.rw_ (fun _ => rfl) (HX7.out.on ((((((Below.refl w7.heap.size w7).drew).trans (hb1.mono ((Below.refl w7.heap.size w7).drew).size)).trans (hb2.mono (((Below.refl w7.heap.size w7).drew).trans (hb1.mono ((Below.refl w7.heap.size w7).drew).size)).size)).trans (hb3.mono ((((Below.refl w7.heap.size w7).drew).trans (hb1.mono ((Below.refl w7.heap.size w7).drew).size)).trans (hb2.mono (((Below.refl w7.heap.size w7).drew).trans (hb1.mono ((Below.refl w7.heap.size w7).drew).size)).size)).size)).trans (hb4.mono (((((Below.refl w7.heap.size w7).drew).trans (hb1.mono ((Below.refl w7.heap.size w7).drew).size)).trans (hb2.mono (((Below.refl w7.heap.size w7).drew).trans (hb1.mono ((Below.refl w7.heap.size w7).drew).size)).size)).trans (hb3.mono ((((Below.refl w7.heap.size w7).drew).trans (hb1.mono ((Below.refl w7.heap.size w7).drew).size)).trans (hb2.mono (((Below.refl w7.heap.size w7).drew).trans (hb1.mono ((Below.refl w7.heap.size w7).drew).size)).size)).size)).size))).o) HE2.out.1 hm8 r2 HRR.out.2).mono ?_
            rintro e y5 ⟨rfl, hb5⟩
            try dsimp only
            refine hK.out _ _ (HZ7.out.l.trans ((((((((Below.refl w7.heap.size w7).drew).trans (hb1.mono ((Below.refl w7.heap.size w7).drew).size)).trans (hb2.mono (((Below.refl w7.heap.size w7).drew).trans (hb1.mono ((Below.refl w7.heap.size w7).drew).size)).size)).trans (hb3.mono ((((Below.refl w7.heap.size w7).drew).trans (hb1.mono ((Below.refl w7.heap.size w7).drew).size)).trans (hb2.mono (((Below.refl w7.heap.size w7).drew).trans (hb1.mono ((Below.refl w7.heap.size w7).drew).size)).size)).size)).trans (hb4.mono (((((Below.refl w7.heap.size w7).drew).trans (hb1.mono ((Below.refl w7.heap.size w7).drew).size)).trans (hb2.mono (((Below.refl w7.heap.size w7).drew).trans (hb1.mono ((Below.refl w7.heap.size w7).drew).size)).size)).trans (hb3.mono ((((Below.refl w7.heap.size w7).drew).trans (hb1.mono ((Below.refl w7.heap.size w7).drew).size)).trans (hb2.mono (((Below.refl w7.heap.size w7).drew).trans (hb1.mono ((Below.refl w7.heap.size w7).drew).size)).size)).size)).size)).trans (hb5.mono ((((((Below.refl w7.heap.size w7).drew).trans (hb1.mono ((Below.refl w7.heap.size w7).drew).size)).trans (hb2.mono (((Below.refl w7.heap.size w7).drew).trans (hb1.mono ((Below.refl w7.heap.size w7).drew).size)).size)).trans (hb3.mono ((((Below.refl w7.heap.size w7).drew).trans (hb1.mono ((Below.refl w7.heap.size w7).drew).size)).trans (hb2.mono (((Below.refl w7.heap.size w7).drew).trans (hb1.mono ((Below.refl w7.heap.size w7).drew).size)).size)).size)).trans (hb4.mono (((((Below.refl w7.heap.size w7).drew).trans (hb1.mono ((Below.refl w7.heap.size w7).drew).size)).trans (hb2.mono (((Below.refl w7.heap.size w7).drew).trans (hb1.mono ((Below.refl w7.heap.size w7).drew).size)).size)).trans (hb3.mono ((((Below.refl w7.heap.size w7).drew).trans (hb1.mono ((Below.refl w7.heap.size w7).drew).size)).trans (hb2.mono (((Below.refl w7.heap.size w7).drew).trans (hb1.mono ((Below.refl w7.heap.size w7).drew).size)).size)).size)).size)).size)).mono HZ7.out.l.size)) (fun hHeld => ?_)
            try simp only [Act.put, List.setIfInBounds_toArray, List.set_cons_zero, List.set_cons_succ, List.getElem_toArray, List.getElem_cons_succ, List.getElem_cons_zero]
            refine take_at (some 114) (i := 37) (v := ?_) rfl rfl (by kernel_rfl) (by kernel_rfl) (by kernel_rfl) (fun _ _ _ h => h) (Or.inl ⟨by kernel_rfl, ?_⟩) hHeld ?_
            rotate_left
            · intro wz hSw; go_simp; try (with_reducible rfl)
            try simp only [Act.put, List.setIfInBounds_toArray, List.set_cons_zero, List.set_cons_succ, List.getElem_toArray, List.getElem_cons_succ, List.getElem_cons_zero]
            refine take_at (some 115) (i := 38) (v := ?_) rfl rfl (by kernel_rfl) (by kernel_rfl) (by kernel_rfl) (fun _ _ _ h => h) (Or.inl ⟨by kernel_rfl, ?_⟩) hHeld ?_
            rotate_left
            · intro wz hSw; go_simp; try (with_reducible rfl)
            try simp only [Act.put, List.setIfInBounds_toArray, List.set_cons_zero, List.set_cons_succ, List.getElem_toArray, List.getElem_cons_succ, List.getElem_cons_zero]
            refine wpAnyH_done (by kernel_rfl) ?_ _
            have hbb := (((((((Below.refl w7.heap.size w7).drew).trans (hb1.mono ((Below.refl w7.heap.size w7).drew).size)).trans (hb2.mono (((Below.refl w7.heap.size w7).drew).trans (hb1.mono ((Below.refl w7.heap.size w7).drew).size)).size)).trans (hb3.mono ((((Below.refl w7.heap.size w7).drew).trans (hb1.mono ((Below.refl w7.heap.size w7).drew).size)).trans (hb2.mono (((Below.refl w7.heap.size w7).drew).trans (hb1.mono ((Below.refl w7.heap.size w7).drew).size)).size)).size)).trans (hb4.mono (((((Below.refl w7.heap.size w7).drew).trans (hb1.mono ((Below.refl w7.heap.size w7).drew).size)).trans (hb2.mono (((Below.refl w7.heap.size w7).drew).trans (hb1.mono ((Below.refl w7.heap.size w7).drew).size)).size)).trans (hb3.mono ((((Below.refl w7.heap.size w7).drew).trans (hb1.mono ((Below.refl w7.heap.size w7).drew).size)).trans (hb2.mono (((Below.refl w7.heap.size w7).drew).trans (hb1.mono ((Below.refl w7.heap.size w7).drew).size)).size)).size)).size)).trans (hb5.mono ((((((Below.refl w7.heap.size w7).drew).trans (hb1.mono ((Below.refl w7.heap.size w7).drew).size)).trans (hb2.mono (((Below.refl w7.heap.size w7).drew).trans (hb1.mono ((Below.refl w7.heap.size w7).drew).size)).size)).trans (hb3.mono ((((Below.refl w7.heap.size w7).drew).trans (hb1.mono ((Below.refl w7.heap.size w7).drew).size)).trans (hb2.mono (((Below.refl w7.heap.size w7).drew).trans (hb1.mono ((Below.refl w7.heap.size w7).drew).size)).size)).size)).trans (hb4.mono (((((Below.refl w7.heap.size w7).drew).trans (hb1.mono ((Below.refl w7.heap.size w7).drew).size)).trans (hb2.mono (((Below.refl w7.heap.size w7).drew).trans (hb1.mono ((Below.refl w7.heap.size w7).drew).size)).size)).trans (hb3.mono ((((Below.refl w7.heap.size w7).drew).trans (hb1.mono ((Below.refl w7.heap.size w7).drew).size)).trans (hb2.mono (((Below.refl w7.heap.size w7).drew).trans (hb1.mono ((Below.refl w7.heap.size w7).drew).size)).size)).size)).size)).size))
            have HZ9 := Lib.hid (HZ7.out.on hbb)
            have HX9 := Lib.hid (HX7.out.on hbb)
            clear hb1 hb2 hb3 hb4 hb5 hbb hHeld ho1
            go_wp2_with fail
            go_roundw
            case rel => exact ⟨i + 1, m + 2, k + 1, t2, _, some ⟨g7, 0, none⟩, d7, by omega, rfl, rfl, by go_num, HZ9, HX9, HE2⟩
            case measure => simp [intOf] <;> omega
      · have hi2 : ¬ (i : Int) < (n : Int) := by omega
        go_wp2_with fail
        go_ret
        exact ⟨rfl, HZ.out.l⟩
end Go.Proofs.Ytinjldjpncijjaa
