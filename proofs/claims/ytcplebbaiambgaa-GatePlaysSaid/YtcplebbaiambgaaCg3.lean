/- config.Right: its contract. (Written by gen_cg1.py.) -/
import Derived.Test.YtcplebbaiambgaaCg2
import Derived.Test.YtcplebbaiambgaaG6
namespace Go.Proofs.Ytcplebbaiambgaa
set_option linter.unusedVariables false
set_option maxRecDepth 100000
set_option linter.unusedSimpArgs false
open Go.RowKit

def TimI (a0 a1 a2 a3 : Int) (i : Nat) : Prop := (1 ≤ i → timB a0 = true) ∧ (2 ≤ i → timB a1 = true) ∧ (3 ≤ i → timB a2 = true) ∧ (4 ≤ i → timB a3 = true)
theorem TimI.s0 {a0 a1 a2 a3 : Int} (h : TimI a0 a1 a2 a3 0) (ht : timB a0 = true) : TimI a0 a1 a2 a3 1 := ⟨fun _ => ht, by omega, by omega, by omega⟩
theorem TimI.s1 {a0 a1 a2 a3 : Int} (h : TimI a0 a1 a2 a3 1) (ht : timB a1 = true) : TimI a0 a1 a2 a3 2 := ⟨fun _ => h.1 (by omega), fun _ => ht, by omega, by omega⟩
theorem TimI.s2 {a0 a1 a2 a3 : Int} (h : TimI a0 a1 a2 a3 2) (ht : timB a2 = true) : TimI a0 a1 a2 a3 3 := ⟨fun _ => h.1 (by omega), fun _ => h.2.1 (by omega), fun _ => ht, by omega⟩
theorem TimI.s3 {a0 a1 a2 a3 : Int} (h : TimI a0 a1 a2 a3 3) (ht : timB a3 = true) : TimI a0 a1 a2 a3 4 := ⟨fun _ => h.1 (by omega), fun _ => h.2.1 (by omega), fun _ => h.2.2.1 (by omega), fun _ => ht⟩
theorem timB_bad {n : Int} (h : timB n = false) : n < 1 ∨ 1073741824 < n := by
  unfold timB at h
  simp only [Bool.and_eq_false_iff, decide_eq_false_iff_not] at h
  omega

theorem tim_le' {n : Int} (h : timB n = true) : ¬ n < 1 ∧ ¬ n > 1073741824 := by
  unfold timB at h
  simp only [Bool.and_eq_true, decide_eq_true_eq] at h
  omega
set_option maxRecDepth 100000 in
set_option maxHeartbeats 8000000 in
theorem right_cfg (x : Cv) (w : World) (h : RC w x) : Calls Try.prog 23 #[.agg (ccs x)] w fun e w' => e = .returned (.bool (cfgB x.cg)) ∧ Below w.heap.size w w' := by
  obtain ⟨a0, a1, a2, a3, ts, A, c⟩ := x
  show Calls Try.prog 23 #[.agg #[.int .i64 a0, .int .i64 a1, .int .i64 a2, .int .i64 a3, .slice A ts.length c]] w _
  obtain ⟨x1, x2⟩ := h
  dsimp only at x1 x2
  have g1 := x2.cap
  have g2 := x2.max
  obtain ⟨v, hv⟩ : ∃ v, cfgB (Cv.cg ⟨a0, a1, a2, a3, ts, A, c⟩) = v := ⟨_, rfl⟩
  rw [hv]
  have hi1 : decide (ts.length ≤ 8) = decide ((ts.length : Int) ≤ 8) := by apply decide_eq_decide.2; omega
  have hv2 : (timB a0 && timB a1 && timB a2 && timB a3 && decide ((ts.length : Int) ≤ 8) && rise ByteArray.empty (ts.map fun x => x.t.name) && ts.all fun x => tenB x.t) = v := by
    rw [← hv, ← hi1]
    unfold cfgB Cv.cg
    simp only [List.length_map, List.map_map, List.all_map]
    rfl
  clear hv
  obtain ⟨n, hn⟩ : ∃ n, ts.length = n := ⟨_, rfl⟩
  have HB0 := Lib.hid (Bx.new w 24 #[.int .i64 a0, .int .i64 a1, .int .i64 a2, .int .i64 a3, .slice A n c])
  have HR1 := Lib.hid (fun u (hu : Bx w w.heap.size 24 #[.int .i64 a0, .int .i64 a1, .int .i64 a2, .int .i64 a3, .slice A n c] u) => (risT_ok A ts n c u (x1.on hu.l) (fun y hy => (x1.each y hy).sz) hn (by omega)).mono (R' := fun e u' => e = .returned (.bool (rise ByteArray.empty (ts.map fun x => x.t.name))) ∧ Bx w w.heap.size 24 #[.int .i64 a0, .int .i64 a1, .int .i64 a2, .int .i64 a3, .slice A n c] u') fun e u' hh => ⟨hh.1, hu.on hh.2⟩)
  have HA1 := Lib.hid (fun u (hu : Bx w w.heap.size 24 #[.int .i64 a0, .int .i64 a1, .int .i64 a2, .int .i64 a3, .slice A n c] u) => (allT_ok A ts n c u (x1.on hu.l) hn (by omega)).mono (R' := fun e u' => e = .returned (.bool (ts.all fun x => tenB x.t)) ∧ Bx w w.heap.size 24 #[.int .i64 a0, .int .i64 a1, .int .i64 a2, .int .i64 a3, .slice A n c] u') fun e u' hh => ⟨hh.1, hu.on hh.2⟩)
  rw [hn] at hv2 ⊢
  have HV := Lib.hid hv2
  clear hn hi1 x1 x2 g1 hv2
  go_enter Try.func23, Try.ntmps23
  go_wp2
  go_loopw [14] (fun v14 wr => ∃ (i : Nat), i ≤ 4 ∧ v14 = .int .i64 (i : Int) ∧ Hid (TimI a0 a1 a2 a3 i) ∧ Hid (Bx w w.heap.size 24 #[.int .i64 a0, .int .i64 a1, .int .i64 a2, .int .i64 a3, .slice A n c] wr)) (fun v14 _ => 4 - (intOf v14).toNat)
  case atStart => exact ⟨0, by omega, rfl, Lib.hid ⟨by omega, by omega, by omega, by omega⟩, HB0⟩
  case round =>
    obtain ⟨i, hi, rfl, HT, HB⟩ := hrel
    clear HB0
    match i, hi with
    | 0, _ =>
      cases ht : timB a0 with
      | true =>
        obtain ⟨y1, y2⟩ := tim_le' ht
        go_wp2_with (refine wpList_index rfl 79 (.tmp 13) (.tmp 14) rfl _ _ (.int .i64 a0) rfl rfl (run_idx 79 2 4 _ 0 _ Try.underlying79 Try.isAgg2 Try.sizeOf2 (by omega) rfl _) ?_)
        go_roundw
        case rel => exact ⟨1, by omega, by go_num, Lib.hid (HT.out.s0 ht), HB⟩
        case measure => simp [intOf]
      | false =>
        have hvf : v = false := by rw [← HV.out]; simp [ht]
        subst hvf
        rcases timB_bad ht with y1 | y1
        · go_wp2_with (refine wpList_index rfl 79 (.tmp 13) (.tmp 14) rfl _ _ (.int .i64 a0) rfl rfl (run_idx 79 2 4 _ 0 _ Try.underlying79 Try.isAgg2 Try.sizeOf2 (by omega) rfl _) ?_)
          go_ret
          exact ⟨rfl, HB.out.l⟩
        · have y2 : ¬ a0 < 1 := by omega
          go_wp2_with (refine wpList_index rfl 79 (.tmp 13) (.tmp 14) rfl _ _ (.int .i64 a0) rfl rfl (run_idx 79 2 4 _ 0 _ Try.underlying79 Try.isAgg2 Try.sizeOf2 (by omega) rfl _) ?_)
          go_ret
          exact ⟨rfl, HB.out.l⟩
    | 1, _ =>
      cases ht : timB a1 with
      | true =>
        obtain ⟨y1, y2⟩ := tim_le' ht
        go_wp2_with (refine wpList_index rfl 79 (.tmp 13) (.tmp 14) rfl _ _ (.int .i64 a1) rfl rfl (run_idx 79 2 4 _ 1 _ Try.underlying79 Try.isAgg2 Try.sizeOf2 (by omega) rfl _) ?_)
        go_roundw
        case rel => exact ⟨2, by omega, by go_num, Lib.hid (HT.out.s1 ht), HB⟩
        case measure => simp [intOf]
      | false =>
        have hvf : v = false := by rw [← HV.out]; simp [ht]
        subst hvf
        rcases timB_bad ht with y1 | y1
        · go_wp2_with (refine wpList_index rfl 79 (.tmp 13) (.tmp 14) rfl _ _ (.int .i64 a1) rfl rfl (run_idx 79 2 4 _ 1 _ Try.underlying79 Try.isAgg2 Try.sizeOf2 (by omega) rfl _) ?_)
          go_ret
          exact ⟨rfl, HB.out.l⟩
        · have y2 : ¬ a1 < 1 := by omega
          go_wp2_with (refine wpList_index rfl 79 (.tmp 13) (.tmp 14) rfl _ _ (.int .i64 a1) rfl rfl (run_idx 79 2 4 _ 1 _ Try.underlying79 Try.isAgg2 Try.sizeOf2 (by omega) rfl _) ?_)
          go_ret
          exact ⟨rfl, HB.out.l⟩
    | 2, _ =>
      cases ht : timB a2 with
      | true =>
        obtain ⟨y1, y2⟩ := tim_le' ht
        go_wp2_with (refine wpList_index rfl 79 (.tmp 13) (.tmp 14) rfl _ _ (.int .i64 a2) rfl rfl (run_idx 79 2 4 _ 2 _ Try.underlying79 Try.isAgg2 Try.sizeOf2 (by omega) rfl _) ?_)
        go_roundw
        case rel => exact ⟨3, by omega, by go_num, Lib.hid (HT.out.s2 ht), HB⟩
        case measure => simp [intOf]
      | false =>
        have hvf : v = false := by rw [← HV.out]; simp [ht]
        subst hvf
        rcases timB_bad ht with y1 | y1
        · go_wp2_with (refine wpList_index rfl 79 (.tmp 13) (.tmp 14) rfl _ _ (.int .i64 a2) rfl rfl (run_idx 79 2 4 _ 2 _ Try.underlying79 Try.isAgg2 Try.sizeOf2 (by omega) rfl _) ?_)
          go_ret
          exact ⟨rfl, HB.out.l⟩
        · have y2 : ¬ a2 < 1 := by omega
          go_wp2_with (refine wpList_index rfl 79 (.tmp 13) (.tmp 14) rfl _ _ (.int .i64 a2) rfl rfl (run_idx 79 2 4 _ 2 _ Try.underlying79 Try.isAgg2 Try.sizeOf2 (by omega) rfl _) ?_)
          go_ret
          exact ⟨rfl, HB.out.l⟩
    | 3, _ =>
      cases ht : timB a3 with
      | true =>
        obtain ⟨y1, y2⟩ := tim_le' ht
        go_wp2_with (refine wpList_index rfl 79 (.tmp 13) (.tmp 14) rfl _ _ (.int .i64 a3) rfl rfl (run_idx 79 2 4 _ 3 _ Try.underlying79 Try.isAgg2 Try.sizeOf2 (by omega) rfl _) ?_)
        go_roundw
        case rel => exact ⟨4, by omega, by go_num, Lib.hid (HT.out.s3 ht), HB⟩
        case measure => simp [intOf]
      | false =>
        have hvf : v = false := by rw [← HV.out]; simp [ht]
        subst hvf
        rcases timB_bad ht with y1 | y1
        · go_wp2_with (refine wpList_index rfl 79 (.tmp 13) (.tmp 14) rfl _ _ (.int .i64 a3) rfl rfl (run_idx 79 2 4 _ 3 _ Try.underlying79 Try.isAgg2 Try.sizeOf2 (by omega) rfl _) ?_)
          go_ret
          exact ⟨rfl, HB.out.l⟩
        · have y2 : ¬ a3 < 1 := by omega
          go_wp2_with (refine wpList_index rfl 79 (.tmp 13) (.tmp 14) rfl _ _ (.int .i64 a3) rfl rfl (run_idx 79 2 4 _ 3 _ Try.underlying79 Try.isAgg2 Try.sizeOf2 (by omega) rfl _) ?_)
          go_ret
          exact ⟨rfl, HB.out.l⟩
    | 4, _ =>
      obtain ⟨t0, t1, t2, t3⟩ := HT.out
      have hv := HV.out
      rw [t0 (by omega), t1 (by omega), t2 (by omega), t3 (by omega)] at hv
      simp only [Bool.true_and] at hv
      have c4 : wr.cell? ⟨w.heap.size, 4, none⟩ = some (.slice A n c) := HB.out.cell 4
      clear HV HT t0 t1 t2 t3
      cases h1 : decide ((n : Int) ≤ 8) with
      | false =>
        have e : v = false := by rw [← hv]; simp [h1]
        subst e
        clear hv
        go_wp2_with (first | (go_at_call 35; refine (HR1.out _ HB.out).mono ?_; rintro e u2 ⟨rfl, hb⟩; have e4 : u2.cell? ⟨w.heap.size, 4, none⟩ = some (.slice A n c) := hb.cell 4; have HB2 := Lib.hid hb; clear hb) | (go_at_call 37; refine (HA1.out _ HB2.out).mono ?_; rintro e u3 ⟨rfl, hb⟩; have HB3 := Lib.hid hb; clear hb))
        go_ret
        exact ⟨rfl, by first | exact HB3.out.l | exact HB2.out.l | exact HB.out.l⟩
      | true =>
        cases h2 : rise ByteArray.empty (ts.map fun x => x.t.name) with
        | false =>
          rw [h2] at HR1
          have e : v = false := by rw [← hv]; simp [h1, h2]
          subst e
          clear hv
          go_wp2_with (first | (go_at_call 35; refine (HR1.out _ HB.out).mono ?_; rintro e u2 ⟨rfl, hb⟩; have e4 : u2.cell? ⟨w.heap.size, 4, none⟩ = some (.slice A n c) := hb.cell 4; have HB2 := Lib.hid hb; clear hb) | (go_at_call 37; refine (HA1.out _ HB2.out).mono ?_; rintro e u3 ⟨rfl, hb⟩; have HB3 := Lib.hid hb; clear hb))
          go_ret
          exact ⟨rfl, by first | exact HB3.out.l | exact HB2.out.l | exact HB.out.l⟩
        | true =>
          rw [h2] at HR1
          cases h3 : ts.all fun x => tenB x.t with
          | false =>
            rw [h3] at HA1
            have e : v = false := by rw [← hv]; simp [h1, h2, h3]
            subst e
            clear hv
            go_wp2_with (first | (go_at_call 35; refine (HR1.out _ HB.out).mono ?_; rintro e u2 ⟨rfl, hb⟩; have e4 : u2.cell? ⟨w.heap.size, 4, none⟩ = some (.slice A n c) := hb.cell 4; have HB2 := Lib.hid hb; clear hb) | (go_at_call 37; refine (HA1.out _ HB2.out).mono ?_; rintro e u3 ⟨rfl, hb⟩; have HB3 := Lib.hid hb; clear hb))
            go_ret
            exact ⟨rfl, by first | exact HB3.out.l | exact HB2.out.l | exact HB.out.l⟩
          | true =>
            rw [h3] at HA1
            have e : v = true := by rw [← hv]; simp [h1, h2, h3]
            subst e
            clear hv
            go_wp2_with (first | (go_at_call 35; refine (HR1.out _ HB.out).mono ?_; rintro e u2 ⟨rfl, hb⟩; have e4 : u2.cell? ⟨w.heap.size, 4, none⟩ = some (.slice A n c) := hb.cell 4; have HB2 := Lib.hid hb; clear hb) | (go_at_call 37; refine (HA1.out _ HB2.out).mono ?_; rintro e u3 ⟨rfl, hb⟩; have HB3 := Lib.hid hb; clear hb))
            go_ret
            exact ⟨rfl, by first | exact HB3.out.l | exact HB2.out.l | exact HB.out.l⟩
    | i + 5, hi => omega

end Go.Proofs.Ytcplebbaiambgaa
