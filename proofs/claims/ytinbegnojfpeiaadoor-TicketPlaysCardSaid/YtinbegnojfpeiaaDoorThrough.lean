/- through: a state behind all blocks of a row of bytes. (Written by gen_through.py.) -/
import Derived.Test.YtinbegnojfpeiaaDoorStretch
import Derived.Test.YtinbegnojfpeiaaDoorG3
namespace Go.Proofs.YtinbegnojfpeiaaDoor
set_option linter.unusedVariables false
set_option maxRecDepth 100000
set_option linter.unusedSimpArgs false
open Go.RowKit

/-- What stir does, as the text Stir shows it. -/
def StirC : Prop := ∀ (s : St) (l : List Nat) (w : World), s.Ok → l.length = 64 → Gl w →
  Calls Tryd.prog 64 #[A8 s, .agg (wcells l)] w fun e w' => e = .returned (A8 (block1 s l)) ∧ Below w.heap.size w w'

set_option maxRecDepth 100000 in
set_option maxHeartbeats 2000000 in
theorem through_of (HSTIR : StirC) (s : St) (A : Option Addr) (n c m : Nat) (l : List UInt8) (w : World) (hs : s.Ok) (hl : l.length = 64 * m) (hn : l.length = n) (hc : n ≤ c) (hmax : c ≤ 9223372036854775807) (hn2 : n ≤ 1152921504606846976) (hG : Gl w) (hR : Rb w w.heap.size A l) :
    Calls Tryd.prog 57 #[A8 s, .slice A n c] w fun e w' => e = .returned (A8 (thr s l m)) ∧ Below w.heap.size w w' := by
  have HL := Lib.hid hl
  have HN := Lib.hid hn
  have HNM := Lib.hid (hn.symm.trans hl)
  have HG := Lib.hid hG
  have HSO := Lib.hid hs
  have HR := Lib.hid hR
  clear hl hn hG hs hR
  go_enter Tryd.func57, Tryd.ntmps57
  go_wp2_with fail
  refine gen_world (fun u => Bk u w.heap.size 80 (s8 s) ∧ Bk u (w.heap.size + 1) 80 (wcells [0, 0, 0, 0, 0, 0, 0, 0]) ∧ Below w.heap.size w u) ?_ (fun w1 hw1 => ?_)
  · have h1 : Bk (w.alloc (.cells (s8 s) 80)) w.heap.size 80 (s8 s) := Bk.new _ _ _
    refine ⟨h1.alloc _, Bk.here ?_, by go_grown⟩
    · show _ = (w.heap.push _).size; rw [Array.size_push]
  obtain ⟨hA, hA0, hbel1⟩ := hw1
  have HA := Lib.hid hA
  have HA0 := Lib.hid hA0
  have HB1 := Lib.hid hbel1
  clear hA hA0 hbel1
  go_loopw [5] (fun v5 wr => ∃ k p : Nat, k ≤ m ∧ Hid (p = 64 * k) ∧ v5 = .int .i64 p ∧ Hid (Bk wr w.heap.size 80 (s8 (thr s l k))) ∧ Hid (Bk wr (w.heap.size + 1) 80 (wcells [0, 0, 0, 0, 0, 0, 0, 0])) ∧ Hid (Below w.heap.size w wr)) (fun v5 _ => n - (intOf v5).toNat)
  case atStart => exact ⟨0, 0, by omega, Lib.hid rfl, rfl, HA, HA0, HB1⟩
  case round =>
    obtain ⟨k, p, hk, HP, rfl, HB, HB0, HBB⟩ := hrel
    clear HA HA0 HB1
    by_cases hk1 : k < m
    · have hp1 : p + 64 ≤ n := by have := HP.out; have := HNM.out; omega
      obtain ⟨b, o, rfl, hbo⟩ : ∃ b o, A = some ⟨b, o, none⟩ ∧ b < w.heap.size := by
        rcases HR.out with h | ⟨b, o, e, hb, _⟩
        · exfalso; have h1 := HN.out; rw [h] at h1; simp at h1; omega
        · exact ⟨b, o, e, hb⟩
      obtain ⟨q, hq⟩ : ∃ q, q = p + 64 := ⟨_, rfl⟩
      obtain ⟨y1, z1⟩ := iwrap ((p : Int) + 64) q (by omega) (by omega)
      have b1 : (p : Int) ≤ (q : Int) := by omega
      have b2 : (q : Int) ≤ (c : Int) := by omega
      have b3 : (p : Int) < (n : Int) := by omega
      have hsub : q - p = 64 := by omega
      have hcp : ¬ (c = p) := by omega
      have HPL := Lib.hid (show ((l.drop p).take 64).length = 64 by rw [List.length_take, List.length_drop, HN.out]; omega)
      have HCP := Lib.hid (show 64 ≤ c - p by omega)
      have HTO := Lib.hid (thr_ok HSO.out l k)
      have HRP := Lib.hid (show ∀ u, Below wr.heap.size wr u → b < u.heap.size ∧ Rb u u.heap.size (some ⟨b, o + p, none⟩) ((l.drop p).take 64) by
        intro u hu
        have h1 := HBB.out.size
        have h2 := hu.size
        exact ⟨by omega, ((HR.out.below HBB.out (Nat.le_refl _)).below hu h1).part.more (by omega)⟩)
      have HGL := Lib.hid (show ∀ u, Below wr.heap.size wr u → Gl u by
        intro u hu
        have h0 := HG.out.size
        exact (HG.out.below HBB.out h0).below hu (by have := HBB.out.size; omega))
      have HBK := Lib.hid (show ∀ u, Below wr.heap.size wr u → Bk u w.heap.size 80 (s8 (thr s l k)) by
        intro u hu
        exact HB.out.below hu HB.out.lt)
      have HFIN := Lib.hid (show ∀ u, Below wr.heap.size wr u → Bk (u.setRow w.heap.size (s8 (block1 (thr s l k) (sched (words16 ((l.drop p).take 64) 0))))) w.heap.size 80 (s8 (thr s l (k + 1))) ∧ Bk (u.setRow w.heap.size (s8 (block1 (thr s l k) (sched (words16 ((l.drop p).take 64) 0))))) (w.heap.size + 1) 80 (wcells [0, 0, 0, 0, 0, 0, 0, 0]) ∧ Below w.heap.size w (u.setRow w.heap.size (s8 (block1 (thr s l k) (sched (words16 ((l.drop p).take 64) 0))))) by
        intro u hu
        refine ⟨?_, ?_, ?_⟩
        · rw [words16_part, HP.out, ← thr]
          exact (HB.out.below hu HB.out.lt).setRow _
        · exact (HB0.out.below hu HB0.out.lt).setRowFar (by omega) _
        · exact Below.setRow (HBB.out.trans (hu.mono HBB.out.size)) _ (Nat.le_refl _) _)
      have HW0 := Lib.hid (show Below wr.heap.size wr wr.drew from (Below.refl _ _).drew)
      have HQ := Lib.hid hq
      clear hq
      go_upto_region 4 with fail
      try simp only [List.cons_append, List.nil_append]
      refine wp_region_held_drew (S := fun _ => True) (by kernel_rfl) (trivial) (fun hHeld => ?_)
      refine take_at (some 13) (i := 1) (v := ?_) rfl rfl (by kernel_rfl) (by kernel_rfl) (by kernel_rfl) (fun _ _ _ h => h) (Or.inl ⟨by kernel_rfl, ?_⟩) hHeld ?_
      rotate_left
      · intro wz hSw; go_simp; try (with_reducible rfl)
      try simp only [Act.put, List.setIfInBounds_toArray, List.set_cons_zero, List.set_cons_succ, List.getElem_toArray, List.getElem_cons_succ, List.getElem_cons_zero]
      refine take_at (some 14) (i := 2) (v := ?_) rfl rfl (by kernel_rfl) (by kernel_rfl) (by kernel_rfl) (fun _ _ _ h => h) (Or.inl ⟨by kernel_rfl, ?_⟩) hHeld ?_
      rotate_left
      · intro wz hSw; go_simp; try (with_reducible rfl)
      try simp only [Act.put, List.setIfInBounds_toArray, List.set_cons_zero, List.set_cons_succ, List.getElem_toArray, List.getElem_cons_succ, List.getElem_cons_zero]
      refine take_at (some 15) (i := 3) (v := ?_) rfl rfl (by kernel_rfl) (by kernel_rfl) (by kernel_rfl) (fun _ _ _ h => h) (Or.inl ⟨by kernel_rfl, ?_⟩) hHeld ?_
      rotate_left
      · intro wz hSw; go_simp; try (with_reducible rfl)
      try simp only [Act.put, List.setIfInBounds_toArray, List.set_cons_zero, List.set_cons_succ, List.getElem_toArray, List.getElem_cons_succ, List.getElem_cons_zero]
      refine take_at (some 16) (i := 4) (v := ?_) rfl rfl (by kernel_rfl) (by kernel_rfl) (by kernel_rfl) (fun _ _ _ h => h) (Or.inl ⟨by kernel_rfl, ?_⟩) hHeld ?_
      rotate_left
      · intro wz hSw; go_simp; try (with_reducible rfl)
      try simp only [Act.put, List.setIfInBounds_toArray, List.set_cons_zero, List.set_cons_succ, List.getElem_toArray, List.getElem_cons_succ, List.getElem_cons_zero]
      refine take_at (some 17) (i := 5) (v := ?_) rfl rfl (by kernel_rfl) (by kernel_rfl) (by kernel_rfl) (fun _ _ _ h => h) (Or.inl ⟨by kernel_rfl, ?_⟩) hHeld ?_
      rotate_left
      · intro wz hSw; go_simp; try (with_reducible rfl)
      try simp only [Act.put, List.setIfInBounds_toArray, List.set_cons_zero, List.set_cons_succ, List.getElem_toArray, List.getElem_cons_succ, List.getElem_cons_zero]
      refine wpAnyH_ready (rs := [0, 6]) (by kernel_rfl) (by simp) (AllReadyH.cons rfl (fun K hK => ?_) (AllReadyH.cons rfl (fun K hK => ?_) AllReadyH.nil))
      · rw [if_pos (by kernel_rfl)]
        refine wp_load_row 80 (.tmp 2) rfl w.heap.size rfl 80 _ (0, 0) _ (HBK.out _ HW0.out) Tryd.underlying80 rfl (by rw [s8_size]; kernel_rfl) ?_
        try dsimp only
        refine hK.out _ _ trivial (fun hHeld => ?_)
        try simp only [Act.put, List.setIfInBounds_toArray, List.set_cons_zero, List.set_cons_succ, List.getElem_toArray, List.getElem_cons_succ, List.getElem_cons_zero]
        refine wpAnyH_ready (rs := [6]) (by kernel_rfl) (by simp) (AllReadyH.cons rfl (fun K hK => ?_) AllReadyH.nil)
        rw [if_pos (by kernel_rfl)]
        go_simp
        refine (words_ok b (o + p) (c - p) _ _ HPL.out (HRP.out _ HW0.out).1 HCP.out (HRP.out _ HW0.out).2).mono ?_
        rintro e u1 ⟨rfl, hb⟩
        have HW1 := Lib.hid (HW0.out.trans (hb.mono HW0.out.size))
        clear hb
        try dsimp only
        refine hK.out _ _ trivial (fun hHeld => ?_)
        try simp only [Act.put, List.setIfInBounds_toArray, List.set_cons_zero, List.set_cons_succ, List.getElem_toArray, List.getElem_cons_succ, List.getElem_cons_zero]
        refine wpAnyH_ready (rs := [7]) (by kernel_rfl) (by simp) (AllReadyH.cons rfl (fun K hK => ?_) AllReadyH.nil)
        rw [if_pos (by kernel_rfl)]
        go_simp
        refine (stretch_ok _ _ (words16_len _ _) (words16_lt _ _)).mono ?_
        rintro e u2 ⟨rfl, hb⟩
        have HW2 := Lib.hid (HW1.out.trans (hb.mono HW1.out.size))
        clear hb
        try dsimp only
        refine hK.out _ _ trivial (fun hHeld => ?_)
        try simp only [Act.put, List.setIfInBounds_toArray, List.set_cons_zero, List.set_cons_succ, List.getElem_toArray, List.getElem_cons_succ, List.getElem_cons_zero]
        refine wpAnyH_ready (rs := [8]) (by kernel_rfl) (by simp) (AllReadyH.cons rfl (fun K hK => ?_) AllReadyH.nil)
        rw [if_pos (by kernel_rfl)]
        go_simp
        refine (HSTIR _ _ _ HTO.out (sched_len _ (words16_len _ _)) (HGL.out _ HW2.out)).mono ?_
        rintro e u3 ⟨rfl, hb⟩
        have HW3 := Lib.hid (HW2.out.trans (hb.mono HW2.out.size))
        clear hb
        try dsimp only
        refine hK.out _ _ trivial (fun hHeld => ?_)
        try simp only [Act.put, List.setIfInBounds_toArray, List.set_cons_zero, List.set_cons_succ, List.getElem_toArray, List.getElem_cons_succ, List.getElem_cons_zero]
        refine wpAnyH_ready (rs := [9]) (by kernel_rfl) (by simp) (AllReadyH.cons rfl (fun K hK => ?_) AllReadyH.nil)
        rw [if_pos (by kernel_rfl)]
        refine wp_store_row 80 (.tmp 2) (.tmp 20) rfl w.heap.size _ rfl rfl 80 _ (HBK.out _ HW3.out) (by rw [s8_size]; kernel_rfl) (s8_same _ _) (s8_one _) ?_
        try dsimp only
        refine hK.out _ _ trivial (fun hHeld => ?_)
        try simp only [Act.put, List.setIfInBounds_toArray, List.set_cons_zero, List.set_cons_succ, List.getElem_toArray, List.getElem_cons_succ, List.getElem_cons_zero]
        have HF := Lib.hid (HFIN.out _ HW3.out)
        refine wpAnyH_done (by kernel_rfl) ?_ _
        go_wp2_with fail
        go_roundw
        case rel => exact ⟨k + 1, q, by omega, Lib.hid (by rw [HQ.out, HP.out]; omega), rfl, Lib.hid HF.out.1, Lib.hid HF.out.2.1, Lib.hid HF.out.2.2⟩
        case measure => have := HQ.out; simp [intOf]; omega
      · rw [if_pos (by kernel_rfl)]
        go_simp
        refine (words_ok b (o + p) (c - p) _ _ HPL.out (HRP.out _ HW0.out).1 HCP.out (HRP.out _ HW0.out).2).mono ?_
        rintro e u1 ⟨rfl, hb⟩
        have HW1 := Lib.hid (HW0.out.trans (hb.mono HW0.out.size))
        clear hb
        try dsimp only
        refine hK.out _ _ trivial (fun hHeld => ?_)
        try simp only [Act.put, List.setIfInBounds_toArray, List.set_cons_zero, List.set_cons_succ, List.getElem_toArray, List.getElem_cons_succ, List.getElem_cons_zero]
        refine wpAnyH_ready (rs := [0, 7]) (by kernel_rfl) (by simp) (AllReadyH.cons rfl (fun K hK => ?_) (AllReadyH.cons rfl (fun K hK => ?_) AllReadyH.nil))
        · rw [if_pos (by kernel_rfl)]
          refine wp_load_row 80 (.tmp 2) rfl w.heap.size rfl 80 _ (0, 0) _ (HBK.out _ HW1.out) Tryd.underlying80 rfl (by rw [s8_size]; kernel_rfl) ?_
          try dsimp only
          refine hK.out _ _ trivial (fun hHeld => ?_)
          try simp only [Act.put, List.setIfInBounds_toArray, List.set_cons_zero, List.set_cons_succ, List.getElem_toArray, List.getElem_cons_succ, List.getElem_cons_zero]
          refine wpAnyH_ready (rs := [7]) (by kernel_rfl) (by simp) (AllReadyH.cons rfl (fun K hK => ?_) AllReadyH.nil)
          rw [if_pos (by kernel_rfl)]
          go_simp
          refine (stretch_ok _ _ (words16_len _ _) (words16_lt _ _)).mono ?_
          rintro e u2 ⟨rfl, hb⟩
          have HW2 := Lib.hid (HW1.out.trans (hb.mono HW1.out.size))
          clear hb
          try dsimp only
          refine hK.out _ _ trivial (fun hHeld => ?_)
          try simp only [Act.put, List.setIfInBounds_toArray, List.set_cons_zero, List.set_cons_succ, List.getElem_toArray, List.getElem_cons_succ, List.getElem_cons_zero]
          refine wpAnyH_ready (rs := [8]) (by kernel_rfl) (by simp) (AllReadyH.cons rfl (fun K hK => ?_) AllReadyH.nil)
          rw [if_pos (by kernel_rfl)]
          go_simp
          refine (HSTIR _ _ _ HTO.out (sched_len _ (words16_len _ _)) (HGL.out _ HW2.out)).mono ?_
          rintro e u3 ⟨rfl, hb⟩
          have HW3 := Lib.hid (HW2.out.trans (hb.mono HW2.out.size))
          clear hb
          try dsimp only
          refine hK.out _ _ trivial (fun hHeld => ?_)
          try simp only [Act.put, List.setIfInBounds_toArray, List.set_cons_zero, List.set_cons_succ, List.getElem_toArray, List.getElem_cons_succ, List.getElem_cons_zero]
          refine wpAnyH_ready (rs := [9]) (by kernel_rfl) (by simp) (AllReadyH.cons rfl (fun K hK => ?_) AllReadyH.nil)
          rw [if_pos (by kernel_rfl)]
          refine wp_store_row 80 (.tmp 2) (.tmp 20) rfl w.heap.size _ rfl rfl 80 _ (HBK.out _ HW3.out) (by rw [s8_size]; kernel_rfl) (s8_same _ _) (s8_one _) ?_
          try dsimp only
          refine hK.out _ _ trivial (fun hHeld => ?_)
          try simp only [Act.put, List.setIfInBounds_toArray, List.set_cons_zero, List.set_cons_succ, List.getElem_toArray, List.getElem_cons_succ, List.getElem_cons_zero]
          have HF := Lib.hid (HFIN.out _ HW3.out)
          refine wpAnyH_done (by kernel_rfl) ?_ _
          go_wp2_with fail
          go_roundw
          case rel => exact ⟨k + 1, q, by omega, Lib.hid (by rw [HQ.out, HP.out]; omega), rfl, Lib.hid HF.out.1, Lib.hid HF.out.2.1, Lib.hid HF.out.2.2⟩
          case measure => have := HQ.out; simp [intOf]; omega
        · rw [if_pos (by kernel_rfl)]
          go_simp
          refine (stretch_ok _ _ (words16_len _ _) (words16_lt _ _)).mono ?_
          rintro e u2 ⟨rfl, hb⟩
          have HW2 := Lib.hid (HW1.out.trans (hb.mono HW1.out.size))
          clear hb
          try dsimp only
          refine hK.out _ _ trivial (fun hHeld => ?_)
          try simp only [Act.put, List.setIfInBounds_toArray, List.set_cons_zero, List.set_cons_succ, List.getElem_toArray, List.getElem_cons_succ, List.getElem_cons_zero]
          refine wpAnyH_ready (rs := [0]) (by kernel_rfl) (by simp) (AllReadyH.cons rfl (fun K hK => ?_) AllReadyH.nil)
          rw [if_pos (by kernel_rfl)]
          refine wp_load_row 80 (.tmp 2) rfl w.heap.size rfl 80 _ (0, 0) _ (HBK.out _ HW2.out) Tryd.underlying80 rfl (by rw [s8_size]; kernel_rfl) ?_
          try dsimp only
          refine hK.out _ _ trivial (fun hHeld => ?_)
          try simp only [Act.put, List.setIfInBounds_toArray, List.set_cons_zero, List.set_cons_succ, List.getElem_toArray, List.getElem_cons_succ, List.getElem_cons_zero]
          refine wpAnyH_ready (rs := [8]) (by kernel_rfl) (by simp) (AllReadyH.cons rfl (fun K hK => ?_) AllReadyH.nil)
          rw [if_pos (by kernel_rfl)]
          go_simp
          refine (HSTIR _ _ _ HTO.out (sched_len _ (words16_len _ _)) (HGL.out _ HW2.out)).mono ?_
          rintro e u3 ⟨rfl, hb⟩
          have HW3 := Lib.hid (HW2.out.trans (hb.mono HW2.out.size))
          clear hb
          try dsimp only
          refine hK.out _ _ trivial (fun hHeld => ?_)
          try simp only [Act.put, List.setIfInBounds_toArray, List.set_cons_zero, List.set_cons_succ, List.getElem_toArray, List.getElem_cons_succ, List.getElem_cons_zero]
          refine wpAnyH_ready (rs := [9]) (by kernel_rfl) (by simp) (AllReadyH.cons rfl (fun K hK => ?_) AllReadyH.nil)
          rw [if_pos (by kernel_rfl)]
          refine wp_store_row 80 (.tmp 2) (.tmp 20) rfl w.heap.size _ rfl rfl 80 _ (HBK.out _ HW3.out) (by rw [s8_size]; kernel_rfl) (s8_same _ _) (s8_one _) ?_
          try dsimp only
          refine hK.out _ _ trivial (fun hHeld => ?_)
          try simp only [Act.put, List.setIfInBounds_toArray, List.set_cons_zero, List.set_cons_succ, List.getElem_toArray, List.getElem_cons_succ, List.getElem_cons_zero]
          have HF := Lib.hid (HFIN.out _ HW3.out)
          refine wpAnyH_done (by kernel_rfl) ?_ _
          go_wp2_with fail
          go_roundw
          case rel => exact ⟨k + 1, q, by omega, Lib.hid (by rw [HQ.out, HP.out]; omega), rfl, Lib.hid HF.out.1, Lib.hid HF.out.2.1, Lib.hid HF.out.2.2⟩
          case measure => have := HQ.out; simp [intOf]; omega
    · have HKM := Lib.hid (show k = m by omega)
      rw [HKM.out] at HB
      have b3 : (n : Int) ≤ (p : Int) := by have := HP.out; have := HNM.out; omega
      have HE := Lib.hid (show (Tryd.prog.info? 80).map (·.size) = some (s8 (thr s l m)).size by rw [s8_size]; kernel_rfl)
      go_wp2_with (first
        | refine wpList_load_row rfl 80 (.tmp 2) rfl w.heap.size rfl 80 _ (0, 0) _ HB.out Tryd.underlying80 rfl HE.out ?_
        | refine wpList_store_row rfl 80 (.tmp 4) (.tmp 21) rfl (w.heap.size + 1) _ rfl rfl 80 _ HB0.out HE.out (z8_size _) (s8_one _) ?_)
      obtain ⟨w3, hw3⟩ : ∃ w3, w3 = wr.setRow (w.heap.size + 1) (s8 (thr s l m)) := ⟨_, rfl⟩
      have HB3 : Bk w3 (w.heap.size + 1) 80 (s8 (thr s l m)) := by rw [hw3]; exact HB0.out.setRow _
      have hbel3 : Below w.heap.size w w3 := by rw [hw3]; exact Below.setRow HBB.out _ (by omega) _
      rw [← hw3]
      refine bodyPost_ret (results_cell_row rfl _ _ (w.heap.size + 1) 80 _ (0, 0) _ rfl HB3 Tryd.underlying80 rfl HE.out) rfl ?_
      exact ⟨rfl, hbel3⟩
end Go.Proofs.YtinbegnojfpeiaaDoor
