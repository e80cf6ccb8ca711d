/- stretch: the schedule of a block's words. (Written by gen_stretch.py.) -/
import Derived.Test.YtinbegnojfpeiaaDoorWords
import Derived.Test.YtinbegnojfpeiaaDoorG2
import Derived.Laws.CopyOwn
namespace Go.Proofs.YtinbegnojfpeiaaDoor
set_option linter.unusedVariables false
set_option maxRecDepth 100000
set_option linter.unusedSimpArgs false
open Go.RowKit

theorem moved_a (x : Nat) (w : World) (hx : x < 4294967296) : Calls Tryd.prog 70 #[.int .u32 (x : Int), .agg #[.int .i64 17, .int .i64 19, .int .i64 10]] w fun e w' => e = .returned (.int .u32 ((small x 17 19 10 : Nat) : Int)) ∧ Below w.heap.size w w' :=
  moved_ok x 17 19 10 w hx (by omega) (by omega) (by omega)
theorem moved_b (x : Nat) (w : World) (hx : x < 4294967296) : Calls Tryd.prog 70 #[.int .u32 (x : Int), .agg #[.int .i64 7, .int .i64 18, .int .i64 3]] w fun e w' => e = .returned (.int .u32 ((small x 7 18 3 : Nat) : Int)) ∧ Below w.heap.size w w' :=
  moved_ok x 7 18 3 w hx (by omega) (by omega) (by omega)

set_option maxRecDepth 100000 in
set_option maxHeartbeats 1000000 in
theorem stretch_ok (l : List Nat) (w : World) (hl : l.length = 16) (hlt : ∀ i, l.getD i 0 < 4294967296) :
    Calls Tryd.prog 65 #[.agg (wcells l)] w fun e w' => e = .returned (.agg (wcells (sched l))) ∧ Below w.heap.size w w' := by
  have HL := Lib.hid hl
  have HLT := Lib.hid (sched_lt l hl hlt)
  have HAT := Lib.hid (sched_at l hl)
  have HSL := Lib.hid (sched_len l hl)
  have HTK := Lib.hid (sched_take l hl)
  clear hl hlt
  obtain ⟨LS, hLS⟩ : ∃ LS, LS = sched l := ⟨_, rfl⟩
  rw [← hLS] at HLT HAT HSL HTK ⊢
  clear hLS
  go_enter Tryd.func65, Tryd.ntmps65
  go_wp2_with fail
  refine gen_world (fun u => Bk u (w.heap.size + 2) 95 (wcells (pre [] 64)) ∧ Bk u (w.heap.size + 1) 95 (wcells (pre [] 64)) ∧ Bk u w.heap.size 106 (wcells l) ∧ Below w.heap.size w u ∧ u.heap.size = w.heap.size + 3) ?_ (fun w1 hw1 => ?_)
  · have h1 : Bk (w.alloc (.cells (wcells l) 106)) w.heap.size 106 (wcells l) := Bk.new _ _ _
    refine ⟨Bk.here ?_, Bk.alloc (Bk.here ?_) _, (h1.alloc _).alloc _, by go_grown, ?_⟩
    · show _ = ((w.heap.push _).push _).size; rw [Array.size_push, Array.size_push]
    · show _ = (w.heap.push _).size; rw [Array.size_push]
    · show (((w.heap.push _).push _).push _).size = _; rw [Array.size_push, Array.size_push, Array.size_push]
  obtain ⟨hA, hA0, hAl, hbel1, hsz⟩ := hw1
  have HA := Lib.hid hA
  have HA0 := Lib.hid hA0
  have HAL := Lib.hid hAl
  have HB1 := Lib.hid hbel1
  clear hA hA0 hAl hbel1 hsz
  try simp only [List.cons_append, List.nil_append]
  refine wp_region_held_drew (S := fun _ => True) (by kernel_rfl) (trivial) (fun hHeld => ?_)
  refine take_at (some 5) (i := 0) (v := ?_) rfl rfl (by kernel_rfl) (by kernel_rfl) (by kernel_rfl) (fun _ _ _ h => h) (Or.inl ⟨by kernel_rfl, ?_⟩) hHeld ?_
  rotate_left
  · intro wz hSw; go_simp; try (with_reducible rfl)
  try simp only [Act.put, List.setIfInBounds_toArray, List.set_cons_zero, List.set_cons_succ, List.getElem_toArray, List.getElem_cons_succ, List.getElem_cons_zero]
  refine take_at (some 6) (i := 1) (v := ?_) rfl rfl (by kernel_rfl) (by kernel_rfl) (by kernel_rfl) (fun _ _ _ h => h) (Or.inl ⟨by kernel_rfl, ?_⟩) hHeld ?_
  rotate_left
  · intro wz hSw; go_simp; try (with_reducible rfl)
  try simp only [Act.put, List.setIfInBounds_toArray, List.set_cons_zero, List.set_cons_succ, List.getElem_toArray, List.getElem_cons_succ, List.getElem_cons_zero]
  refine wpAnyH_ready (rs := [2]) (by kernel_rfl) (by simp) (AllReadyH.cons rfl (fun K hK => ?_) AllReadyH.nil)
  refine step_copy_splice rfl (.tmp 5) (.tmp 6) 113 113 rfl 79 Tryd.underlying113 (by kernel_rfl) (some ⟨w.heap.size + 2, 0, none⟩) (some ⟨w.heap.size, 0, none⟩) 64 64 16 16 rfl rfl (w.heap.size + 2) 0 ((pre [] 64).map wd) 95 HA.out.drew (l.map wd) (by rw [List.length_map, HL.out]; rfl) (fun _ => ⟨rfl, _, rfl, fun j v hj => ?_⟩) (by rw [List.length_map, List.length_map, HL.out]; decide) ?_ (w.heap.size + 2) w1 (Below.refl _ _).drew (Nat.le_refl _) ?_
  · obtain ⟨h1, h2⟩ := List.getElem?_eq_some_iff.1 hj
    have h3 : (wcells l)[j]? = some v := by rw [← hj]; simp [wcells]
    have e : (⟨w.heap.size, 0, none⟩ : Addr).add j = ⟨w.heap.size, j, none⟩ := by unfold Addr.add; split <;> simp_all
    rw [e]; exact (HAL.out.drew.cell j).trans h3
  · intro v hv
    obtain ⟨x, _, rfl⟩ := List.mem_map.1 hv
    rfl
  intro w2 HC hb2
  rw [show goInt ((l.map wd).length : Int) = .int .i64 16 by rw [List.length_map, HL.out]; rfl]
  refine hK.out _ _ trivial (fun hHeld => ?_)
  try simp only [Act.put, List.setIfInBounds_toArray, List.set_cons_zero, List.set_cons_succ, List.getElem_toArray, List.getElem_cons_succ, List.getElem_cons_zero]
  refine take_at (some 4) (i := 3) (v := ?_) rfl rfl (by kernel_rfl) (by kernel_rfl) (by kernel_rfl) (fun _ _ _ h => h) (Or.inl ⟨by kernel_rfl, ?_⟩) hHeld ?_
  rotate_left
  · intro wz hSw; go_simp; try (with_reducible rfl)
  try simp only [Act.put, List.setIfInBounds_toArray, List.set_cons_zero, List.set_cons_succ, List.getElem_toArray, List.getElem_cons_succ, List.getElem_cons_zero]
  refine wpAnyH_done (by kernel_rfl) ?_ _
  go_wp2_with fail
  rw [splice_pre l 64 (by rw [HL.out]; decide)] at HC
  have HC1 := Lib.hid (show Bk w2 (w.heap.size + 1 + 1) 95 (wcells (pre (LS.take 16) 64)) by rw [HTK.out]; exact HC.out)
  have HC0 := Lib.hid (show Bk w2 (w.heap.size + 1) 95 (wcells (pre [] 64)) from (hb2.block (w.heap.size + 1) (by omega)).trans HA0.out)
  have HB2 := Lib.hid (HB1.out.trans (hb2.mono (by omega)))
  clear HC HA HA0 HAL HB1 hb2
  go_loopw [4] (fun v4 wr => ∃ i : Nat, 16 ≤ i ∧ i ≤ 64 ∧ v4 = .int .i64 i ∧ Hid (Bk wr (w.heap.size + 1 + 1) 95 (wcells (pre (LS.take i) 64))) ∧ Hid (Bk wr (w.heap.size + 1) 95 (wcells (pre [] 64))) ∧ Hid (Below w.heap.size w wr)) (fun v4 _ => 64 - (intOf v4).toNat)
  case atStart => exact ⟨16, by omega, by omega, rfl, HC1, HC0, HB2⟩
  case round =>
    obtain ⟨i, hi1, hi2, rfl, HB, HB0, HBB⟩ := hrel
    by_cases hi : i < 64
    · have hCs : (wcells (pre (LS.take i) 64)).size = 64 := by rw [wcells_size, pre_len _ _ (by rw [List.length_take]; omega)]
      have HPN := Lib.hid (pre_next LS 64 i _ HSL.out hi rfl)
      have HV := Lib.hid (HAT.out i hi1 hi)
      obtain ⟨S, hS⟩ : ∃ S : World → Prop, S = Fill wr (w.heap.size + 1 + 1) 95 (wcells (pre (LS.take i) 64)) i := ⟨_, rfl⟩
      have HSW := Lib.hid (show ∀ u u', S u → Below u.heap.size u u' → S u' by rw [hS]; exact fun u u' h hb => h.below hb)
      have HSX := Lib.hid (show ∀ u v, S u → S (u.setCell ⟨w.heap.size + 1 + 1, i, none⟩ v) ∧ Bk (u.setCell ⟨w.heap.size + 1 + 1, i, none⟩ v) (w.heap.size + 1 + 1) 95 ((wcells (pre (LS.take i) 64)).setIfInBounds i v) ∧ Below (w.heap.size + 1 + 1) wr (u.setCell ⟨w.heap.size + 1 + 1, i, none⟩ v) by rw [hS]; exact fun u v h => h.set v)
      have HSF := Lib.hid (show ∀ u, S u → (∃ v, u.cell? ⟨w.heap.size + 1 + 1, i, none⟩ = some v) ∧ u.frozen? ⟨w.heap.size + 1 + 1, i, none⟩ = false by rw [hS]; exact fun u h => ⟨h.here (by rw [hCs]; exact hi), h.frozen i⟩)
      have HS0 := Lib.hid (show S wr.drew by rw [hS]; exact Fill.first HB.out (by rw [hCs]; exact hi))
      have HCL := Lib.hid (show ∀ j, j < i → ∀ u, S u → u.cell? ⟨w.heap.size + 1 + 1, j, none⟩ = some (.int .u32 ((LS.getD j 0 : Nat) : Int)) by
        rw [hS]
        intro j hj u h
        have hlt : (LS.take i).length = i := by rw [List.length_take, HSL.out]; omega
        rw [h.cell j (by omega), wcells_at _ _ (by rw [pre_len _ _ (by omega)]; omega), pre_at _ _ _ (by omega)]
        rw [List.getD, List.getElem?_take_of_lt hj, ← List.getD])
      clear hS hCs
      obtain ⟨i2, hi2'⟩ : ∃ k, k + 2 = i := ⟨i - 2, by omega⟩
      obtain ⟨i7, hi7⟩ : ∃ k, k + 7 = i := ⟨i - 7, by omega⟩
      obtain ⟨i15, hi15⟩ : ∃ k, k + 15 = i := ⟨i - 15, by omega⟩
      obtain ⟨i16, hi16⟩ : ∃ k, k + 16 = i := ⟨i - 16, by omega⟩
      have HC2 := Lib.hid (HCL.out i2 (by omega)); have HC7 := Lib.hid (HCL.out i7 (by omega)); have HC15 := Lib.hid (HCL.out i15 (by omega)); have HC16 := Lib.hid (HCL.out i16 (by omega))
      rw [show i - 2 = i2 by omega, show i - 7 = i7 by omega, show i - 15 = i15 by omega, show i - 16 = i16 by omega] at HV
      have HL2 := Lib.hid (HLT.out i2); have HL15 := Lib.hid (HLT.out i15)
      obtain ⟨x2, hx2⟩ : ∃ x, x = LS.getD i2 0 := ⟨_, rfl⟩
      obtain ⟨x7, hx7⟩ : ∃ x, x = LS.getD i7 0 := ⟨_, rfl⟩
      obtain ⟨x15, hx15⟩ : ∃ x, x = LS.getD i15 0 := ⟨_, rfl⟩
      obtain ⟨x16, hx16⟩ : ∃ x, x = LS.getD i16 0 := ⟨_, rfl⟩
      rw [← hx2] at HC2 HV HL2; rw [← hx7] at HC7 HV; rw [← hx15] at HC15 HV HL15; rw [← hx16] at HC16 HV
      obtain ⟨a2, a2'⟩ := iwrap ((i : Int) - 2) i2 (by omega) (by omega)
      obtain ⟨a7, a7'⟩ := iwrap ((i : Int) - 7) i7 (by omega) (by omega)
      obtain ⟨a15, a15'⟩ := iwrap ((i : Int) - 15) i15 (by omega) (by omega)
      obtain ⟨a16, a16'⟩ := iwrap ((i : Int) - 16) i16 (by omega) (by omega)
      have b2 : (i2 : Int) < 64 := by omega
      have b7 : (i7 : Int) < 64 := by omega
      have b15 : (i15 : Int) < 64 := by omega
      have b16 : (i16 : Int) < 64 := by omega
      have bi : (i : Int) < 64 := by omega
      have hADD : ∀ x y : Nat, ((x : Int) + (y : Int)) % 4294967296 = ((wadd x y : Nat) : Int) := v_add
      have hADD2 : ∀ x y : Nat, IntKind.u32.wrap ((x : Int) + (y : Int)) = ((wadd x y : Nat) : Int) := w_add
      clear hx2 hx7 hx15 hx16 hi2' hi7 hi15 hi16
      go_wp2_with fail
      try simp only [List.cons_append, List.nil_append]
      refine wp_region_held_drew (S := S) (by kernel_rfl) (HS0.out) (fun hHeld => ?_)
      refine take_at (some 12) (i := 0) (v := ?_) rfl rfl (by kernel_rfl) (by kernel_rfl) (by kernel_rfl) (fun _ _ _ h => h) (Or.inl ⟨by kernel_rfl, ?_⟩) hHeld ?_
      rotate_left
      · intro wz hSw; go_simp; try (with_reducible rfl)
      try simp only [Act.put, List.setIfInBounds_toArray, List.set_cons_zero, List.set_cons_succ, List.getElem_toArray, List.getElem_cons_succ, List.getElem_cons_zero]
      refine take_at (some 13) (i := 1) (v := ?_) rfl rfl (by kernel_rfl) (by kernel_rfl) (by kernel_rfl) (fun _ _ _ h => h) (Or.inl ⟨by kernel_rfl, ?_⟩) hHeld ?_
      rotate_left
      · intro wz hSw; go_simp; try (with_reducible rfl)
      try simp only [Act.put, List.setIfInBounds_toArray, List.set_cons_zero, List.set_cons_succ, List.getElem_toArray, List.getElem_cons_succ, List.getElem_cons_zero]
      refine take_at (some 14) (i := 2) (v := ?_) rfl rfl (by kernel_rfl) (by kernel_rfl) (by kernel_rfl) (fun _ _ _ h => h) (Or.inl ⟨by kernel_rfl, ?_⟩) hHeld ?_
      rotate_left
      · intro wz hSw; go_simp; try (with_reducible rfl)
      try simp only [Act.put, List.setIfInBounds_toArray, List.set_cons_zero, List.set_cons_succ, List.getElem_toArray, List.getElem_cons_succ, List.getElem_cons_zero]
      refine take_at (some 15) (i := 3) (v := ?_) rfl rfl (by kernel_rfl) (by kernel_rfl) (by kernel_rfl) (fun _ _ _ h => h) (Or.inl ⟨by kernel_rfl, ?_⟩) hHeld ?_
      rotate_left
      · intro wz hSw; go_simp; try (with_reducible rfl)
      try simp only [Act.put, List.setIfInBounds_toArray, List.set_cons_zero, List.set_cons_succ, List.getElem_toArray, List.getElem_cons_succ, List.getElem_cons_zero]
      refine take_at (some 16) (i := 4) (v := ?_) rfl rfl (by kernel_rfl) (by kernel_rfl) (by kernel_rfl) (fun _ _ _ h => h) (Or.inl ⟨by kernel_rfl, ?_⟩) hHeld ?_
      rotate_left
      · intro wz hSw; have hcv := HC2.out wz hSw; go_simp; try (with_reducible rfl)
      try simp only [Act.put, List.setIfInBounds_toArray, List.set_cons_zero, List.set_cons_succ, List.getElem_toArray, List.getElem_cons_succ, List.getElem_cons_zero]
      refine take_at (some 17) (i := 5) (v := ?_) rfl rfl (by kernel_rfl) (by kernel_rfl) (by kernel_rfl) (fun _ _ _ h => h) (Or.inl ⟨by kernel_rfl, ?_⟩) hHeld ?_
      rotate_left
      · intro wz hSw; go_simp; try (with_reducible rfl)
      try simp only [Act.put, List.setIfInBounds_toArray, List.set_cons_zero, List.set_cons_succ, List.getElem_toArray, List.getElem_cons_succ, List.getElem_cons_zero]
      refine take_at (some 19) (i := 7) (v := ?_) rfl rfl (by kernel_rfl) (by kernel_rfl) (by kernel_rfl) (fun _ _ _ h => h) (Or.inl ⟨by kernel_rfl, ?_⟩) hHeld ?_
      rotate_left
      · intro wz hSw; go_simp; try (with_reducible rfl)
      try simp only [Act.put, List.setIfInBounds_toArray, List.set_cons_zero, List.set_cons_succ, List.getElem_toArray, List.getElem_cons_succ, List.getElem_cons_zero]
      refine take_at (some 20) (i := 8) (v := ?_) rfl rfl (by kernel_rfl) (by kernel_rfl) (by kernel_rfl) (fun _ _ _ h => h) (Or.inl ⟨by kernel_rfl, ?_⟩) hHeld ?_
      rotate_left
      · intro wz hSw; go_simp; try (with_reducible rfl)
      try simp only [Act.put, List.setIfInBounds_toArray, List.set_cons_zero, List.set_cons_succ, List.getElem_toArray, List.getElem_cons_succ, List.getElem_cons_zero]
      refine take_at (some 21) (i := 9) (v := ?_) rfl rfl (by kernel_rfl) (by kernel_rfl) (by kernel_rfl) (fun _ _ _ h => h) (Or.inl ⟨by kernel_rfl, ?_⟩) hHeld ?_
      rotate_left
      · intro wz hSw; go_simp; try (with_reducible rfl)
      try simp only [Act.put, List.setIfInBounds_toArray, List.set_cons_zero, List.set_cons_succ, List.getElem_toArray, List.getElem_cons_succ, List.getElem_cons_zero]
      refine take_at (some 22) (i := 10) (v := ?_) rfl rfl (by kernel_rfl) (by kernel_rfl) (by kernel_rfl) (fun _ _ _ h => h) (Or.inl ⟨by kernel_rfl, ?_⟩) hHeld ?_
      rotate_left
      · intro wz hSw; have hcv := HC7.out wz hSw; go_simp; try (with_reducible rfl)
      try simp only [Act.put, List.setIfInBounds_toArray, List.set_cons_zero, List.set_cons_succ, List.getElem_toArray, List.getElem_cons_succ, List.getElem_cons_zero]
      refine take_at (some 24) (i := 12) (v := ?_) rfl rfl (by kernel_rfl) (by kernel_rfl) (by kernel_rfl) (fun _ _ _ h => h) (Or.inl ⟨by kernel_rfl, ?_⟩) hHeld ?_
      rotate_left
      · intro wz hSw; go_simp; try (with_reducible rfl)
      try simp only [Act.put, List.setIfInBounds_toArray, List.set_cons_zero, List.set_cons_succ, List.getElem_toArray, List.getElem_cons_succ, List.getElem_cons_zero]
      refine take_at (some 25) (i := 13) (v := ?_) rfl rfl (by kernel_rfl) (by kernel_rfl) (by kernel_rfl) (fun _ _ _ h => h) (Or.inl ⟨by kernel_rfl, ?_⟩) hHeld ?_
      rotate_left
      · intro wz hSw; go_simp; try (with_reducible rfl)
      try simp only [Act.put, List.setIfInBounds_toArray, List.set_cons_zero, List.set_cons_succ, List.getElem_toArray, List.getElem_cons_succ, List.getElem_cons_zero]
      refine take_at (some 26) (i := 14) (v := ?_) rfl rfl (by kernel_rfl) (by kernel_rfl) (by kernel_rfl) (fun _ _ _ h => h) (Or.inl ⟨by kernel_rfl, ?_⟩) hHeld ?_
      rotate_left
      · intro wz hSw; go_simp; try (with_reducible rfl)
      try simp only [Act.put, List.setIfInBounds_toArray, List.set_cons_zero, List.set_cons_succ, List.getElem_toArray, List.getElem_cons_succ, List.getElem_cons_zero]
      refine take_at (some 27) (i := 15) (v := ?_) rfl rfl (by kernel_rfl) (by kernel_rfl) (by kernel_rfl) (fun _ _ _ h => h) (Or.inl ⟨by kernel_rfl, ?_⟩) hHeld ?_
      rotate_left
      · intro wz hSw; have hcv := HC15.out wz hSw; go_simp; try (with_reducible rfl)
      try simp only [Act.put, List.setIfInBounds_toArray, List.set_cons_zero, List.set_cons_succ, List.getElem_toArray, List.getElem_cons_succ, List.getElem_cons_zero]
      refine take_at (some 28) (i := 16) (v := ?_) rfl rfl (by kernel_rfl) (by kernel_rfl) (by kernel_rfl) (fun _ _ _ h => h) (Or.inl ⟨by kernel_rfl, ?_⟩) hHeld ?_
      rotate_left
      · intro wz hSw; go_simp; try (with_reducible rfl)
      try simp only [Act.put, List.setIfInBounds_toArray, List.set_cons_zero, List.set_cons_succ, List.getElem_toArray, List.getElem_cons_succ, List.getElem_cons_zero]
      refine take_at (some 31) (i := 19) (v := ?_) rfl rfl (by kernel_rfl) (by kernel_rfl) (by kernel_rfl) (fun _ _ _ h => h) (Or.inl ⟨by kernel_rfl, ?_⟩) hHeld ?_
      rotate_left
      · intro wz hSw; go_simp; try (with_reducible rfl)
      try simp only [Act.put, List.setIfInBounds_toArray, List.set_cons_zero, List.set_cons_succ, List.getElem_toArray, List.getElem_cons_succ, List.getElem_cons_zero]
      refine take_at (some 32) (i := 20) (v := ?_) rfl rfl (by kernel_rfl) (by kernel_rfl) (by kernel_rfl) (fun _ _ _ h => h) (Or.inl ⟨by kernel_rfl, ?_⟩) hHeld ?_
      rotate_left
      · intro wz hSw; go_simp; try (with_reducible rfl)
      try simp only [Act.put, List.setIfInBounds_toArray, List.set_cons_zero, List.set_cons_succ, List.getElem_toArray, List.getElem_cons_succ, List.getElem_cons_zero]
      refine take_at (some 33) (i := 21) (v := ?_) rfl rfl (by kernel_rfl) (by kernel_rfl) (by kernel_rfl) (fun _ _ _ h => h) (Or.inl ⟨by kernel_rfl, ?_⟩) hHeld ?_
      rotate_left
      · intro wz hSw; go_simp; try (with_reducible rfl)
      try simp only [Act.put, List.setIfInBounds_toArray, List.set_cons_zero, List.set_cons_succ, List.getElem_toArray, List.getElem_cons_succ, List.getElem_cons_zero]
      refine take_at (some 34) (i := 22) (v := ?_) rfl rfl (by kernel_rfl) (by kernel_rfl) (by kernel_rfl) (fun _ _ _ h => h) (Or.inl ⟨by kernel_rfl, ?_⟩) hHeld ?_
      rotate_left
      · intro wz hSw; have hcv := HC16.out wz hSw; go_simp; try (with_reducible rfl)
      try simp only [Act.put, List.setIfInBounds_toArray, List.set_cons_zero, List.set_cons_succ, List.getElem_toArray, List.getElem_cons_succ, List.getElem_cons_zero]
      refine wpAnyH_ready (rs := [6]) (by kernel_rfl) (by simp) (AllReadyH.cons rfl (fun K hK => ?_) AllReadyH.nil)
      rw [if_pos (by kernel_rfl)]
      go_simp
      refine (moved_a x2 _ HL2.out).mono ?_
      rintro e w3 ⟨rfl, hb3⟩
      try dsimp only
      refine hK.out _ _ (HSW.out _ _ hHeld hb3) (fun hHeld => ?_)
      try simp only [Act.put, List.setIfInBounds_toArray, List.set_cons_zero, List.set_cons_succ, List.getElem_toArray, List.getElem_cons_succ, List.getElem_cons_zero]
      refine take_at (some 23) (i := 11) (v := ?_) rfl rfl (by kernel_rfl) (by kernel_rfl) (by kernel_rfl) (fun _ _ _ h => h) (Or.inl ⟨by kernel_rfl, ?_⟩) hHeld ?_
      rotate_left
      · intro wz hSw; go_simp; try (with_reducible rfl)
      try simp only [Act.put, List.setIfInBounds_toArray, List.set_cons_zero, List.set_cons_succ, List.getElem_toArray, List.getElem_cons_succ, List.getElem_cons_zero]
      refine wpAnyH_ready (rs := [17]) (by kernel_rfl) (by simp) (AllReadyH.cons rfl (fun K hK => ?_) AllReadyH.nil)
      rw [if_pos (by kernel_rfl)]
      go_simp
      refine (moved_b x15 _ HL15.out).mono ?_
      rintro e w4 ⟨rfl, hb4⟩
      try dsimp only
      refine hK.out _ _ (HSW.out _ _ hHeld hb4) (fun hHeld => ?_)
      try simp only [Act.put, List.setIfInBounds_toArray, List.set_cons_zero, List.set_cons_succ, List.getElem_toArray, List.getElem_cons_succ, List.getElem_cons_zero]
      refine take_at (some 30) (i := 18) (v := ?_) rfl rfl (by kernel_rfl) (by kernel_rfl) (by kernel_rfl) (fun _ _ _ h => h) (Or.inl ⟨by kernel_rfl, ?_⟩) hHeld ?_
      rotate_left
      · intro wz hSw; go_simp; try (with_reducible rfl)
      try simp only [Act.put, List.setIfInBounds_toArray, List.set_cons_zero, List.set_cons_succ, List.getElem_toArray, List.getElem_cons_succ, List.getElem_cons_zero]
      refine take_at (some 35) (i := 23) (v := ?_) rfl rfl (by kernel_rfl) (by kernel_rfl) (by kernel_rfl) (fun _ _ _ h => h) (Or.inl ⟨by kernel_rfl, ?_⟩) hHeld ?_
      rotate_left
      · intro wz hSw; go_simp; try (with_reducible rfl)
      try simp only [Act.put, List.setIfInBounds_toArray, List.set_cons_zero, List.set_cons_succ, List.getElem_toArray, List.getElem_cons_succ, List.getElem_cons_zero]
      refine take_at (some 36) (i := 24) (v := ?_) rfl rfl (by kernel_rfl) (by kernel_rfl) (by kernel_rfl) (fun _ _ _ h => h) (Or.inl ⟨by kernel_rfl, ?_⟩) hHeld ?_
      rotate_left
      · intro wz hSw; go_simp; try (with_reducible rfl)
      try simp only [Act.put, List.setIfInBounds_toArray, List.set_cons_zero, List.set_cons_succ, List.getElem_toArray, List.getElem_cons_succ, List.getElem_cons_zero]
      refine wpAnyH_ready (rs := [25]) (by kernel_rfl) (by simp) (AllReadyH.cons rfl (fun K hK => ?_) AllReadyH.nil)
      rw [if_pos (by kernel_rfl)]
      obtain ⟨⟨v5, hc5⟩, hf5⟩ := HSF.out _ hHeld
      go_simp
      obtain ⟨hs6, hk6, hb6⟩ := HSX.out _ (wd (wadd (wadd (wadd (small x2 17 19 10) x7) (small x15 7 18 3)) x16)) hHeld
      refine hK.out _ _ hs6 (fun hHeld => ?_)
      try simp only [Act.put, List.setIfInBounds_toArray, List.set_cons_zero, List.set_cons_succ, List.getElem_toArray, List.getElem_cons_succ, List.getElem_cons_zero]
      refine wpAnyH_done (by kernel_rfl) ?_ _
      go_wp2_with fail
      go_roundw
      case rel =>
        refine ⟨i + 1, by omega, by omega, by go_num, Lib.hid ?_, Lib.hid ?_, Lib.hid ?_⟩
        · rw [← HPN.out.2, HV.out]; exact hk6
        · exact (hb6.block (w.heap.size + 1) (by omega)).trans HB0.out
        · exact HBB.out.trans (hb6.mono (by omega))
      case measure => simp [intOf]; omega
    · have hi3 : i = 64 := by omega
      subst hi3
      rw [List.take_of_length_le (by rw [HSL.out]; omega), pre_full _ _ HSL.out] at HB
      have e1 : (Tryd.prog.info? 95).map (·.size) = some (wcells LS).size := by rw [wcells_size, HSL.out]; kernel_rfl
      have e2 : (wcells (pre [] 64)).size = (wcells LS).size := by rw [wcells_size, wcells_size, HSL.out]; rfl
      have HE := Lib.hid (And.intro e1 e2)
      clear e1 e2
      go_wp2_with (first
        | refine wpList_load_row rfl 95 (.tmp 3) rfl (w.heap.size + 1 + 1) rfl 95 _ (0, 0) _ HB.out Tryd.underlying95 rfl HE.out.1 ?_
        | refine wpList_store_row rfl 95 (.tmp 2) (.tmp 37) rfl (w.heap.size + 1) _ rfl rfl 95 _ HB0.out HE.out.1 HE.out.2 (wcells_one _) ?_)
      obtain ⟨w3, hw3⟩ : ∃ w3, w3 = wr.setRow (w.heap.size + 1) (wcells LS) := ⟨_, rfl⟩
      have HB3 : Bk w3 (w.heap.size + 1) 95 (wcells LS) := by rw [hw3]; exact HB0.out.setRow _
      have hbel3 : Below w.heap.size w w3 := by rw [hw3]; exact Below.setRow HBB.out _ (by omega) _
      rw [← hw3]
      refine bodyPost_ret (results_cell_row rfl _ _ (w.heap.size + 1) 95 _ (0, 0) _ rfl HB3 Tryd.underlying95 rfl HE.out.1) rfl ?_
      exact ⟨rfl, hbel3⟩
end Go.Proofs.YtinbegnojfpeiaaDoor
