/- Stretch, Blocks, PutB: texts of this seat, one behind the other. -/
import Derived.Test.YtekobdmlgbffnaaGreatDoorWords
import Derived.Test.YtekobdmlgbffnaaGreatDoorG2
import Derived.Laws.CopyOwn
import Derived.Test.YtekobdmlgbffnaaGreatDoorG6
import Derived.Test.YtekobdmlgbffnaaGreatDoorRows
import Derived.Test.YtekobdmlgbffnaaGreatDoorG3
import Derived.Deep.Cut
import Derived.Deep.CutRange
/- stretch: the schedule of a block's words. (Written by gen_stretch.py.) -/
namespace Go.Proofs.YtekobdmlgbffnaaGreatDoor
set_option linter.unusedVariables false
set_option maxRecDepth 100000
set_option linter.unusedSimpArgs false
open Go.RowKit

theorem moved_a (x : Nat) (w : World) (hx : x < 4294967296) : Calls Tryz.prog 170 #[.int .u32 (x : Int), .agg #[.int .i64 17, .int .i64 19, .int .i64 10]] w fun e w' => e = .returned (.int .u32 ((small x 17 19 10 : Nat) : Int)) ∧ Below w.heap.size w w' :=
  moved_ok x 17 19 10 w hx (by omega) (by omega) (by omega)
theorem moved_b (x : Nat) (w : World) (hx : x < 4294967296) : Calls Tryz.prog 170 #[.int .u32 (x : Int), .agg #[.int .i64 7, .int .i64 18, .int .i64 3]] w fun e w' => e = .returned (.int .u32 ((small x 7 18 3 : Nat) : Int)) ∧ Below w.heap.size w w' :=
  moved_ok x 7 18 3 w hx (by omega) (by omega) (by omega)

set_option maxRecDepth 100000 in
set_option maxHeartbeats 1000000 in
theorem stretch_ok (l : List Nat) (w : World) (hl : l.length = 16) (hlt : ∀ i, l.getD i 0 < 4294967296) :
    Calls Tryz.prog 166 #[.agg (wcells l)] w fun e w' => e = .returned (.agg (wcells (sched l))) ∧ Below w.heap.size w w' := by
  have HL := Lib.hid hl
  have HLT := Lib.hid (sched_lt l hl hlt)
  have HAT := Lib.hid (sched_at l hl)
  have HSL := Lib.hid (sched_len l hl)
  have HTK := Lib.hid (sched_take l hl)
  clear hl hlt
  obtain ⟨LS, hLS⟩ : ∃ LS, LS = sched l := ⟨_, rfl⟩
  rw [← hLS] at HLT HAT HSL HTK ⊢
  clear hLS
  go_enter Tryz.func166, Tryz.ntmps166
  go_wp2_with fail
  refine gen_world (fun u => Bk u (w.heap.size + 2) 230 (wcells (pre [] 64)) ∧ Bk u (w.heap.size + 1) 230 (wcells (pre [] 64)) ∧ Bk u w.heap.size 232 (wcells l) ∧ Below w.heap.size w u ∧ u.heap.size = w.heap.size + 3) ?_ (fun w1 hw1 => ?_)
  · have h1 : Bk (w.alloc (.cells (wcells l) 232)) w.heap.size 232 (wcells l) := Bk.new _ _ _
    refine ⟨Bk.here ?_, Bk.alloc (Bk.here ?_) _, (h1.alloc _).alloc _, by go_grown, ?_⟩
    · show _ = ((w.heap.push _).push _).size; rw [Array.size_push, Array.size_push]
    · show _ = (w.heap.push _).size; rw [Array.size_push]
    · show (((w.heap.push _).push _).push _).size = _; rw [Array.size_push, Array.size_push, Array.size_push]
  obtain ⟨hA, hA0, hAl, hbel1, hsz⟩ := hw1
  have HA := Lib.hid hA
  have HA0 := Lib.hid hA0
  have HAL := Lib.hid hAl
  have HB1 := Lib.hid hbel1
  clear hA hA0 hAl hbel1 hsz
  try simp only [List.cons_append, List.nil_append]
  refine wp_region_held_drew (S := fun _ => True) (by kernel_rfl) (trivial) (fun hHeld => ?_)
  refine take_at (some 5) (i := 0) (v := ?_) rfl rfl (by kernel_rfl) (by kernel_rfl) (by kernel_rfl) (fun _ _ _ h => h) (Or.inl ⟨by kernel_rfl, ?_⟩) hHeld ?_
  rotate_left
  · intro wz hSw; go_simp; try (with_reducible rfl)
  try simp only [Act.put, List.setIfInBounds_toArray, List.set_cons_zero, List.set_cons_succ, List.getElem_toArray, List.getElem_cons_succ, List.getElem_cons_zero]
  refine take_at (some 6) (i := 1) (v := ?_) rfl rfl (by kernel_rfl) (by kernel_rfl) (by kernel_rfl) (fun _ _ _ h => h) (Or.inl ⟨by kernel_rfl, ?_⟩) hHeld ?_
  rotate_left
  · intro wz hSw; go_simp; try (with_reducible rfl)
  try simp only [Act.put, List.setIfInBounds_toArray, List.set_cons_zero, List.set_cons_succ, List.getElem_toArray, List.getElem_cons_succ, List.getElem_cons_zero]
  refine wpAnyH_ready (rs := [2]) (by kernel_rfl) (by simp) (AllReadyH.cons rfl (fun K hK => ?_) AllReadyH.nil)
  refine step_copy_splice rfl (.tmp 5) (.tmp 6) 240 240 rfl 83 Tryz.underlying240 (by kernel_rfl) (some ⟨w.heap.size + 2, 0, none⟩) (some ⟨w.heap.size, 0, none⟩) 64 64 16 16 rfl rfl (w.heap.size + 2) 0 ((pre [] 64).map wd) 230 HA.out.drew (l.map wd) (by rw [List.length_map, HL.out]; rfl) (fun _ => ⟨rfl, _, rfl, fun j v hj => ?_⟩) (by rw [List.length_map, List.length_map, HL.out]; decide) ?_ (w.heap.size + 2) w1 (Below.refl _ _).drew (Nat.le_refl _) ?_
  · obtain ⟨h1, h2⟩ := List.getElem?_eq_some_iff.1 hj
    have h3 : (wcells l)[j]? = some v := by rw [← hj]; simp [wcells]
    have e : (⟨w.heap.size, 0, none⟩ : Addr).add j = ⟨w.heap.size, j, none⟩ := by unfold Addr.add; split <;> simp_all
    rw [e]; exact (HAL.out.drew.cell j).trans h3
  · intro v hv
    obtain ⟨x, _, rfl⟩ := List.mem_map.1 hv
    rfl
  intro w2 HC hb2
  rw [show goInt ((l.map wd).length : Int) = .int .i64 16 by rw [List.length_map, HL.out]; rfl]
  refine hK.out _ _ trivial (fun hHeld => ?_)
  try simp only [Act.put, List.setIfInBounds_toArray, List.set_cons_zero, List.set_cons_succ, List.getElem_toArray, List.getElem_cons_succ, List.getElem_cons_zero]
  refine take_at (some 4) (i := 3) (v := ?_) rfl rfl (by kernel_rfl) (by kernel_rfl) (by kernel_rfl) (fun _ _ _ h => h) (Or.inl ⟨by kernel_rfl, ?_⟩) hHeld ?_
  rotate_left
  · intro wz hSw; go_simp; try (with_reducible rfl)
  try simp only [Act.put, List.setIfInBounds_toArray, List.set_cons_zero, List.set_cons_succ, List.getElem_toArray, List.getElem_cons_succ, List.getElem_cons_zero]
  refine wpAnyH_done (by kernel_rfl) ?_ _
  go_wp2_with fail
  rw [splice_pre l 64 (by rw [HL.out]; decide)] at HC
  have HC1 := Lib.hid (show Bk w2 (w.heap.size + 1 + 1) 230 (wcells (pre (LS.take 16) 64)) by rw [HTK.out]; exact HC.out)
  have HC0 := Lib.hid (show Bk w2 (w.heap.size + 1) 230 (wcells (pre [] 64)) from (hb2.block (w.heap.size + 1) (by omega)).trans HA0.out)
  have HB2 := Lib.hid (HB1.out.trans (hb2.mono (by omega)))
  clear HC HA HA0 HAL HB1 hb2
  go_loopw [4] (fun v4 wr => ∃ i : Nat, 16 ≤ i ∧ i ≤ 64 ∧ v4 = .int .i64 i ∧ Hid (Bk wr (w.heap.size + 1 + 1) 230 (wcells (pre (LS.take i) 64))) ∧ Hid (Bk wr (w.heap.size + 1) 230 (wcells (pre [] 64))) ∧ Hid (Below w.heap.size w wr)) (fun v4 _ => 64 - (intOf v4).toNat)
  case atStart => exact ⟨16, by omega, by omega, rfl, HC1, HC0, HB2⟩
  case round =>
    obtain ⟨i, hi1, hi2, rfl, HB, HB0, HBB⟩ := hrel
    by_cases hi : i < 64
    · have hCs : (wcells (pre (LS.take i) 64)).size = 64 := by rw [wcells_size, pre_len _ _ (by rw [List.length_take]; omega)]
      have HPN := Lib.hid (pre_next LS 64 i _ HSL.out hi rfl)
      have HV := Lib.hid (HAT.out i hi1 hi)
      obtain ⟨S, hS⟩ : ∃ S : World → Prop, S = Fill wr (w.heap.size + 1 + 1) 230 (wcells (pre (LS.take i) 64)) i := ⟨_, rfl⟩
      have HSW := Lib.hid (show ∀ u u', S u → Below u.heap.size u u' → S u' by rw [hS]; exact fun u u' h hb => h.below hb)
      have HSX := Lib.hid (show ∀ u v, S u → S (u.setCell ⟨w.heap.size + 1 + 1, i, none⟩ v) ∧ Bk (u.setCell ⟨w.heap.size + 1 + 1, i, none⟩ v) (w.heap.size + 1 + 1) 230 ((wcells (pre (LS.take i) 64)).setIfInBounds i v) ∧ Below (w.heap.size + 1 + 1) wr (u.setCell ⟨w.heap.size + 1 + 1, i, none⟩ v) by rw [hS]; exact fun u v h => h.set v)
      have HSF := Lib.hid (show ∀ u, S u → (∃ v, u.cell? ⟨w.heap.size + 1 + 1, i, none⟩ = some v) ∧ u.frozen? ⟨w.heap.size + 1 + 1, i, none⟩ = false by rw [hS]; exact fun u h => ⟨h.here (by rw [hCs]; exact hi), h.frozen i⟩)
      have HS0 := Lib.hid (show S wr.drew by rw [hS]; exact Fill.first HB.out (by rw [hCs]; exact hi))
      have HCL := Lib.hid (show ∀ j, j < i → ∀ u, S u → u.cell? ⟨w.heap.size + 1 + 1, j, none⟩ = some (.int .u32 ((LS.getD j 0 : Nat) : Int)) by
        rw [hS]
        intro j hj u h
        have hlt : (LS.take i).length = i := by rw [List.length_take, HSL.out]; omega
        rw [h.cell j (by omega), wcells_at _ _ (by rw [pre_len _ _ (by omega)]; omega), pre_at _ _ _ (by omega)]
        rw [List.getD, List.getElem?_take_of_lt hj, ← List.getD])
      clear hS hCs
      obtain ⟨i2, hi2'⟩ : ∃ k, k + 2 = i := ⟨i - 2, by omega⟩
      obtain ⟨i7, hi7⟩ : ∃ k, k + 7 = i := ⟨i - 7, by omega⟩
      obtain ⟨i15, hi15⟩ : ∃ k, k + 15 = i := ⟨i - 15, by omega⟩
      obtain ⟨i16, hi16⟩ : ∃ k, k + 16 = i := ⟨i - 16, by omega⟩
      have HC2 := Lib.hid (HCL.out i2 (by omega)); have HC7 := Lib.hid (HCL.out i7 (by omega)); have HC15 := Lib.hid (HCL.out i15 (by omega)); have HC16 := Lib.hid (HCL.out i16 (by omega))
      rw [show i - 2 = i2 by omega, show i - 7 = i7 by omega, show i - 15 = i15 by omega, show i - 16 = i16 by omega] at HV
      have HL2 := Lib.hid (HLT.out i2); have HL15 := Lib.hid (HLT.out i15)
      obtain ⟨x2, hx2⟩ : ∃ x, x = LS.getD i2 0 := ⟨_, rfl⟩
      obtain ⟨x7, hx7⟩ : ∃ x, x = LS.getD i7 0 := ⟨_, rfl⟩
      obtain ⟨x15, hx15⟩ : ∃ x, x = LS.getD i15 0 := ⟨_, rfl⟩
      obtain ⟨x16, hx16⟩ : ∃ x, x = LS.getD i16 0 := ⟨_, rfl⟩
      rw [← hx2] at HC2 HV HL2; rw [← hx7] at HC7 HV; rw [← hx15] at HC15 HV HL15; rw [← hx16] at HC16 HV
      obtain ⟨a2, a2'⟩ := iwrap ((i : Int) - 2) i2 (by omega) (by omega)
      obtain ⟨a7, a7'⟩ := iwrap ((i : Int) - 7) i7 (by omega) (by omega)
      obtain ⟨a15, a15'⟩ := iwrap ((i : Int) - 15) i15 (by omega) (by omega)
      obtain ⟨a16, a16'⟩ := iwrap ((i : Int) - 16) i16 (by omega) (by omega)
      have b2 : (i2 : Int) < 64 := by omega
      have b7 : (i7 : Int) < 64 := by omega
      have b15 : (i15 : Int) < 64 := by omega
      have b16 : (i16 : Int) < 64 := by omega
      have bi : (i : Int) < 64 := by omega
      have hADD : ∀ x y : Nat, ((x : Int) + (y : Int)) % 4294967296 = ((wadd x y : Nat) : Int) := v_add
      have hADD2 : ∀ x y : Nat, IntKind.u32.wrap ((x : Int) + (y : Int)) = ((wadd x y : Nat) : Int) := w_add
      clear hx2 hx7 hx15 hx16 hi2' hi7 hi15 hi16
      go_wp2_with fail
      try simp only [List.cons_append, List.nil_append]
      refine wp_region_held_drew (S := S) (by kernel_rfl) (HS0.out) (fun hHeld => ?_)
      refine take_at (some 12) (i := 0) (v := ?_) rfl rfl (by kernel_rfl) (by kernel_rfl) (by kernel_rfl) (fun _ _ _ h => h) (Or.inl ⟨by kernel_rfl, ?_⟩) hHeld ?_
      rotate_left
      · intro wz hSw; go_simp; try (with_reducible rfl)
      try simp only [Act.put, List.setIfInBounds_toArray, List.set_cons_zero, List.set_cons_succ, List.getElem_toArray, List.getElem_cons_succ, List.getElem_cons_zero]
      refine take_at (some 13) (i := 1) (v := ?_) rfl rfl (by kernel_rfl) (by kernel_rfl) (by kernel_rfl) (fun _ _ _ h => h) (Or.inl ⟨by kernel_rfl, ?_⟩) hHeld ?_
      rotate_left
      · intro wz hSw; go_simp; try (with_reducible rfl)
      try simp only [Act.put, List.setIfInBounds_toArray, List.set_cons_zero, List.set_cons_succ, List.getElem_toArray, List.getElem_cons_succ, List.getElem_cons_zero]
      refine take_at (some 14) (i := 2) (v := ?_) rfl rfl (by kernel_rfl) (by kernel_rfl) (by kernel_rfl) (fun _ _ _ h => h) (Or.inl ⟨by kernel_rfl, ?_⟩) hHeld ?_
      rotate_left
      · intro wz hSw; go_simp; try (with_reducible rfl)
      try simp only [Act.put, List.setIfInBounds_toArray, List.set_cons_zero, List.set_cons_succ, List.getElem_toArray, List.getElem_cons_succ, List.getElem_cons_zero]
      refine take_at (some 15) (i := 3) (v := ?_) rfl rfl (by kernel_rfl) (by kernel_rfl) (by kernel_rfl) (fun _ _ _ h => h) (Or.inl ⟨by kernel_rfl, ?_⟩) hHeld ?_
      rotate_left
      · intro wz hSw; go_simp; try (with_reducible rfl)
      try simp only [Act.put, List.setIfInBounds_toArray, List.set_cons_zero, List.set_cons_succ, List.getElem_toArray, List.getElem_cons_succ, List.getElem_cons_zero]
      refine take_at (some 16) (i := 4) (v := ?_) rfl rfl (by kernel_rfl) (by kernel_rfl) (by kernel_rfl) (fun _ _ _ h => h) (Or.inl ⟨by kernel_rfl, ?_⟩) hHeld ?_
      rotate_left
      · intro wz hSw; have hcv := HC2.out wz hSw; go_simp; try (with_reducible rfl)
      try simp only [Act.put, List.setIfInBounds_toArray, List.set_cons_zero, List.set_cons_succ, List.getElem_toArray, List.getElem_cons_succ, List.getElem_cons_zero]
      refine take_at (some 17) (i := 5) (v := ?_) rfl rfl (by kernel_rfl) (by kernel_rfl) (by kernel_rfl) (fun _ _ _ h => h) (Or.inl ⟨by kernel_rfl, ?_⟩) hHeld ?_
      rotate_left
      · intro wz hSw; go_simp; try (with_reducible rfl)
      try simp only [Act.put, List.setIfInBounds_toArray, List.set_cons_zero, List.set_cons_succ, List.getElem_toArray, List.getElem_cons_succ, List.getElem_cons_zero]
      refine take_at (some 19) (i := 7) (v := ?_) rfl rfl (by kernel_rfl) (by kernel_rfl) (by kernel_rfl) (fun _ _ _ h => h) (Or.inl ⟨by kernel_rfl, ?_⟩) hHeld ?_
      rotate_left
      · intro wz hSw; go_simp; try (with_reducible rfl)
      try simp only [Act.put, List.setIfInBounds_toArray, List.set_cons_zero, List.set_cons_succ, List.getElem_toArray, List.getElem_cons_succ, List.getElem_cons_zero]
      refine take_at (some 20) (i := 8) (v := ?_) rfl rfl (by kernel_rfl) (by kernel_rfl) (by kernel_rfl) (fun _ _ _ h => h) (Or.inl ⟨by kernel_rfl, ?_⟩) hHeld ?_
      rotate_left
      · intro wz hSw; go_simp; try (with_reducible rfl)
      try simp only [Act.put, List.setIfInBounds_toArray, List.set_cons_zero, List.set_cons_succ, List.getElem_toArray, List.getElem_cons_succ, List.getElem_cons_zero]
      refine take_at (some 21) (i := 9) (v := ?_) rfl rfl (by kernel_rfl) (by kernel_rfl) (by kernel_rfl) (fun _ _ _ h => h) (Or.inl ⟨by kernel_rfl, ?_⟩) hHeld ?_
      rotate_left
      · intro wz hSw; go_simp; try (with_reducible rfl)
      try simp only [Act.put, List.setIfInBounds_toArray, List.set_cons_zero, List.set_cons_succ, List.getElem_toArray, List.getElem_cons_succ, List.getElem_cons_zero]
      refine take_at (some 22) (i := 10) (v := ?_) rfl rfl (by kernel_rfl) (by kernel_rfl) (by kernel_rfl) (fun _ _ _ h => h) (Or.inl ⟨by kernel_rfl, ?_⟩) hHeld ?_
      rotate_left
      · intro wz hSw; have hcv := HC7.out wz hSw; go_simp; try (with_reducible rfl)
      try simp only [Act.put, List.setIfInBounds_toArray, List.set_cons_zero, List.set_cons_succ, List.getElem_toArray, List.getElem_cons_succ, List.getElem_cons_zero]
      refine take_at (some 24) (i := 12) (v := ?_) rfl rfl (by kernel_rfl) (by kernel_rfl) (by kernel_rfl) (fun _ _ _ h => h) (Or.inl ⟨by kernel_rfl, ?_⟩) hHeld ?_
      rotate_left
      · intro wz hSw; go_simp; try (with_reducible rfl)
      try simp only [Act.put, List.setIfInBounds_toArray, List.set_cons_zero, List.set_cons_succ, List.getElem_toArray, List.getElem_cons_succ, List.getElem_cons_zero]
      refine take_at (some 25) (i := 13) (v := ?_) rfl rfl (by kernel_rfl) (by kernel_rfl) (by kernel_rfl) (fun _ _ _ h => h) (Or.inl ⟨by kernel_rfl, ?_⟩) hHeld ?_
      rotate_left
      · intro wz hSw; go_simp; try (with_reducible rfl)
      try simp only [Act.put, List.setIfInBounds_toArray, List.set_cons_zero, List.set_cons_succ, List.getElem_toArray, List.getElem_cons_succ, List.getElem_cons_zero]
      refine take_at (some 26) (i := 14) (v := ?_) rfl rfl (by kernel_rfl) (by kernel_rfl) (by kernel_rfl) (fun _ _ _ h => h) (Or.inl ⟨by kernel_rfl, ?_⟩) hHeld ?_
      rotate_left
      · intro wz hSw; go_simp; try (with_reducible rfl)
      try simp only [Act.put, List.setIfInBounds_toArray, List.set_cons_zero, List.set_cons_succ, List.getElem_toArray, List.getElem_cons_succ, List.getElem_cons_zero]
      refine take_at (some 27) (i := 15) (v := ?_) rfl rfl (by kernel_rfl) (by kernel_rfl) (by kernel_rfl) (fun _ _ _ h => h) (Or.inl ⟨by kernel_rfl, ?_⟩) hHeld ?_
      rotate_left
      · intro wz hSw; have hcv := HC15.out wz hSw; go_simp; try (with_reducible rfl)
      try simp only [Act.put, List.setIfInBounds_toArray, List.set_cons_zero, List.set_cons_succ, List.getElem_toArray, List.getElem_cons_succ, List.getElem_cons_zero]
      refine take_at (some 28) (i := 16) (v := ?_) rfl rfl (by kernel_rfl) (by kernel_rfl) (by kernel_rfl) (fun _ _ _ h => h) (Or.inl ⟨by kernel_rfl, ?_⟩) hHeld ?_
      rotate_left
      · intro wz hSw; go_simp; try (with_reducible rfl)
      try simp only [Act.put, List.setIfInBounds_toArray, List.set_cons_zero, List.set_cons_succ, List.getElem_toArray, List.getElem_cons_succ, List.getElem_cons_zero]
      refine take_at (some 31) (i := 19) (v := ?_) rfl rfl (by kernel_rfl) (by kernel_rfl) (by kernel_rfl) (fun _ _ _ h => h) (Or.inl ⟨by kernel_rfl, ?_⟩) hHeld ?_
      rotate_left
      · intro wz hSw; go_simp; try (with_reducible rfl)
      try simp only [Act.put, List.setIfInBounds_toArray, List.set_cons_zero, List.set_cons_succ, List.getElem_toArray, List.getElem_cons_succ, List.getElem_cons_zero]
      refine take_at (some 32) (i := 20) (v := ?_) rfl rfl (by kernel_rfl) (by kernel_rfl) (by kernel_rfl) (fun _ _ _ h => h) (Or.inl ⟨by kernel_rfl, ?_⟩) hHeld ?_
      rotate_left
      · intro wz hSw; go_simp; try (with_reducible rfl)
      try simp only [Act.put, List.setIfInBounds_toArray, List.set_cons_zero, List.set_cons_succ, List.getElem_toArray, List.getElem_cons_succ, List.getElem_cons_zero]
      refine take_at (some 33) (i := 21) (v := ?_) rfl rfl (by kernel_rfl) (by kernel_rfl) (by kernel_rfl) (fun _ _ _ h => h) (Or.inl ⟨by kernel_rfl, ?_⟩) hHeld ?_
      rotate_left
      · intro wz hSw; go_simp; try (with_reducible rfl)
      try simp only [Act.put, List.setIfInBounds_toArray, List.set_cons_zero, List.set_cons_succ, List.getElem_toArray, List.getElem_cons_succ, List.getElem_cons_zero]
      refine take_at (some 34) (i := 22) (v := ?_) rfl rfl (by kernel_rfl) (by kernel_rfl) (by kernel_rfl) (fun _ _ _ h => h) (Or.inl ⟨by kernel_rfl, ?_⟩) hHeld ?_
      rotate_left
      · intro wz hSw; have hcv := HC16.out wz hSw; go_simp; try (with_reducible rfl)
      try simp only [Act.put, List.setIfInBounds_toArray, List.set_cons_zero, List.set_cons_succ, List.getElem_toArray, List.getElem_cons_succ, List.getElem_cons_zero]
      refine wpAnyH_ready (rs := [6]) (by kernel_rfl) (by simp) (AllReadyH.cons rfl (fun K hK => ?_) AllReadyH.nil)
      rw [if_pos (by kernel_rfl)]
      go_simp
      refine (moved_a x2 _ HL2.out).mono ?_
      rintro e w3 ⟨rfl, hb3⟩
      try dsimp only
      refine hK.out _ _ (HSW.out _ _ hHeld hb3) (fun hHeld => ?_)
      try simp only [Act.put, List.setIfInBounds_toArray, List.set_cons_zero, List.set_cons_succ, List.getElem_toArray, List.getElem_cons_succ, List.getElem_cons_zero]
      refine take_at (some 23) (i := 11) (v := ?_) rfl rfl (by kernel_rfl) (by kernel_rfl) (by kernel_rfl) (fun _ _ _ h => h) (Or.inl ⟨by kernel_rfl, ?_⟩) hHeld ?_
      rotate_left
      · intro wz hSw; go_simp; try (with_reducible rfl)
      try simp only [Act.put, List.setIfInBounds_toArray, List.set_cons_zero, List.set_cons_succ, List.getElem_toArray, List.getElem_cons_succ, List.getElem_cons_zero]
      refine wpAnyH_ready (rs := [17]) (by kernel_rfl) (by simp) (AllReadyH.cons rfl (fun K hK => ?_) AllReadyH.nil)
      rw [if_pos (by kernel_rfl)]
      go_simp
      refine (moved_b x15 _ HL15.out).mono ?_
      rintro e w4 ⟨rfl, hb4⟩
      try dsimp only
      refine hK.out _ _ (HSW.out _ _ hHeld hb4) (fun hHeld => ?_)
      try simp only [Act.put, List.setIfInBounds_toArray, List.set_cons_zero, List.set_cons_succ, List.getElem_toArray, List.getElem_cons_succ, List.getElem_cons_zero]
      refine take_at (some 30) (i := 18) (v := ?_) rfl rfl (by kernel_rfl) (by kernel_rfl) (by kernel_rfl) (fun _ _ _ h => h) (Or.inl ⟨by kernel_rfl, ?_⟩) hHeld ?_
      rotate_left
      · intro wz hSw; go_simp; try (with_reducible rfl)
      try simp only [Act.put, List.setIfInBounds_toArray, List.set_cons_zero, List.set_cons_succ, List.getElem_toArray, List.getElem_cons_succ, List.getElem_cons_zero]
      refine take_at (some 35) (i := 23) (v := ?_) rfl rfl (by kernel_rfl) (by kernel_rfl) (by kernel_rfl) (fun _ _ _ h => h) (Or.inl ⟨by kernel_rfl, ?_⟩) hHeld ?_
      rotate_left
      · intro wz hSw; go_simp; try (with_reducible rfl)
      try simp only [Act.put, List.setIfInBounds_toArray, List.set_cons_zero, List.set_cons_succ, List.getElem_toArray, List.getElem_cons_succ, List.getElem_cons_zero]
      refine take_at (some 36) (i := 24) (v := ?_) rfl rfl (by kernel_rfl) (by kernel_rfl) (by kernel_rfl) (fun _ _ _ h => h) (Or.inl ⟨by kernel_rfl, ?_⟩) hHeld ?_
      rotate_left
      · intro wz hSw; go_simp; try (with_reducible rfl)
      try simp only [Act.put, List.setIfInBounds_toArray, List.set_cons_zero, List.set_cons_succ, List.getElem_toArray, List.getElem_cons_succ, List.getElem_cons_zero]
      refine wpAnyH_ready (rs := [25]) (by kernel_rfl) (by simp) (AllReadyH.cons rfl (fun K hK => ?_) AllReadyH.nil)
      rw [if_pos (by kernel_rfl)]
      obtain ⟨⟨v5, hc5⟩, hf5⟩ := HSF.out _ hHeld
      go_simp
      obtain ⟨hs6, hk6, hb6⟩ := HSX.out _ (wd (wadd (wadd (wadd (small x2 17 19 10) x7) (small x15 7 18 3)) x16)) hHeld
      refine hK.out _ _ hs6 (fun hHeld => ?_)
      try simp only [Act.put, List.setIfInBounds_toArray, List.set_cons_zero, List.set_cons_succ, List.getElem_toArray, List.getElem_cons_succ, List.getElem_cons_zero]
      refine wpAnyH_done (by kernel_rfl) ?_ _
      go_wp2_with fail
      go_roundw
      case rel =>
        refine ⟨i + 1, by omega, by omega, by go_num, Lib.hid ?_, Lib.hid ?_, Lib.hid ?_⟩
        · rw [← HPN.out.2, HV.out]; exact hk6
        · exact (hb6.block (w.heap.size + 1) (by omega)).trans HB0.out
        · exact HBB.out.trans (hb6.mono (by omega))
      case measure => simp [intOf]; omega
    · have hi3 : i = 64 := by omega
      subst hi3
      rw [List.take_of_length_le (by rw [HSL.out]; omega), pre_full _ _ HSL.out] at HB
      have e1 : (Tryz.prog.info? 230).map (·.size) = some (wcells LS).size := by rw [wcells_size, HSL.out]; kernel_rfl
      have e2 : (wcells (pre [] 64)).size = (wcells LS).size := by rw [wcells_size, wcells_size, HSL.out]; rfl
      have HE := Lib.hid (And.intro e1 e2)
      clear e1 e2
      go_wp2_with (first
        | refine wpList_load_row rfl 230 (.tmp 3) rfl (w.heap.size + 1 + 1) rfl 230 _ (0, 0) _ HB.out Tryz.underlying230 rfl HE.out.1 ?_
        | refine wpList_store_row rfl 230 (.tmp 2) (.tmp 37) rfl (w.heap.size + 1) _ rfl rfl 230 _ HB0.out HE.out.1 HE.out.2 (wcells_one _) ?_)
      obtain ⟨w3, hw3⟩ : ∃ w3, w3 = wr.setRow (w.heap.size + 1) (wcells LS) := ⟨_, rfl⟩
      have HB3 : Bk w3 (w.heap.size + 1) 230 (wcells LS) := by rw [hw3]; exact HB0.out.setRow _
      have hbel3 : Below w.heap.size w w3 := by rw [hw3]; exact Below.setRow HBB.out _ (by omega) _
      rw [← hw3]
      refine bodyPost_ret (results_cell_row rfl _ _ (w.heap.size + 1) 230 _ (0, 0) _ rfl HB3 Tryz.underlying230 rfl HE.out.1) rfl ?_
      exact ⟨rfl, hbel3⟩
end Go.Proofs.YtekobdmlgbffnaaGreatDoor

/- Blocks of a row of bytes: what a part of it has for words. Nothing of the program is named here. -/
namespace Go.Proofs.YtekobdmlgbffnaaGreatDoor
set_option linter.unusedVariables false
set_option maxRecDepth 100000
set_option linter.unusedSimpArgs false
open Go.RowKit

theorem byteAt_part (l : List UInt8) (p j : Nat) (h : j < 64) : byteAt ((l.drop p).take 64) j = byteAt l (p + j) := by
  unfold byteAt
  rw [List.getD, List.getD, List.getElem?_take_of_lt h, List.getElem?_drop]
theorem words16_part (l : List UInt8) (p : Nat) : words16 ((l.drop p).take 64) 0 = words16 l p := by
  unfold words16
  apply List.map_congr_left
  intro i hi
  have hi' : i < 16 := List.mem_range.1 hi
  unfold wordAt
  rw [byteAt_part l p _ (by omega), byteAt_part l p _ (by omega), byteAt_part l p _ (by omega), byteAt_part l p _ (by omega)]
  rw [show p + (0 + 4 * i) = p + 4 * i by omega, show p + (0 + 4 * i + 1) = p + 4 * i + 1 by omega, show p + (0 + 4 * i + 2) = p + 4 * i + 2 by omega, show p + (0 + 4 * i + 3) = p + 4 * i + 3 by omega]
theorem byteAt_left (l r : List UInt8) (j : Nat) (h : j < l.length) : byteAt (l ++ r) j = byteAt l j := by
  unfold byteAt; rw [List.getD, List.getD, List.getElem?_append_left h]
theorem byteAt_right (l r : List UInt8) (j : Nat) : byteAt (l ++ r) (l.length + j) = byteAt r j := by
  unfold byteAt; rw [List.getD, List.getD, List.getElem?_append_right (by omega), Nat.add_sub_cancel_left]
theorem words16_left (l r : List UInt8) (p : Nat) (h : p + 64 ≤ l.length) : words16 (l ++ r) p = words16 l p := by
  unfold words16
  apply List.map_congr_left
  intro i hi
  have hi' : i < 16 := List.mem_range.1 hi
  unfold wordAt
  rw [byteAt_left l r _ (by omega), byteAt_left l r _ (by omega), byteAt_left l r _ (by omega), byteAt_left l r _ (by omega)]
theorem words16_right (l r : List UInt8) (p : Nat) : words16 (l ++ r) (l.length + p) = words16 r p := by
  unfold words16
  apply List.map_congr_left
  intro i hi
  unfold wordAt
  rw [show l.length + p + 4 * i = l.length + (p + 4 * i) by omega, show l.length + (p + 4 * i) + 1 = l.length + (p + 4 * i + 1) by omega, show l.length + (p + 4 * i) + 2 = l.length + (p + 4 * i + 2) by omega, show l.length + (p + 4 * i) + 3 = l.length + (p + 4 * i + 3) by omega]
  rw [byteAt_right, byteAt_right, byteAt_right, byteAt_right]
theorem thr_left (s : St) (l r : List UInt8) : ∀ n, 64 * n ≤ l.length → thr s (l ++ r) n = thr s l n
  | 0, _ => by rw [thr, thr]
  | n + 1, h => by rw [thr, thr, thr_left s l r n (by omega), words16_left l r _ (by omega)]
theorem thr_app (s : St) (l r : List UInt8) (m : Nat) (hl : l.length = 64 * m) : ∀ n, thr s (l ++ r) (m + n) = thr (thr s l m) r n
  | 0 => by rw [Nat.add_zero, thr_left s l r m (by omega), thr]
  | n + 1 => by
    rw [← Nat.add_assoc, thr, thr_app s l r m hl n, thr]
    have e : 64 * (m + n) = l.length + 64 * n := by omega
    rw [e, words16_right]
/-- Of bytes that a slice reads as, 64 from p on. -/
theorem Rb.part {w : World} {B b o p : Nat} {l : List UInt8} (h : Rb w B (some ⟨b, o, none⟩) l) : Rb w B (some ⟨b, o + p, none⟩) ((l.drop p).take 64) := by
  rcases h with h | ⟨b', o', e, hb, hc⟩
  · left; rw [h]; simp
  · injection e with e
    injection e with e1 e2
    subst e1; subst e2
    refine .inr ⟨b, o + p, rfl, hb, fun i hi => ?_⟩
    have hi1 : i < 64 ∧ p + i < l.length := by rw [List.length_take, List.length_drop] at hi; omega
    have := hc (p + i) hi1.2
    rw [← Nat.add_assoc] at this
    rw [this, List.getElem_take, List.getElem_drop]
end Go.Proofs.YtekobdmlgbffnaaGreatDoor

/- put: a number's bytes, the highest first; ending: what is put behind the bytes. -/
namespace Go.Proofs.YtekobdmlgbffnaaGreatDoor
set_option linter.unusedVariables false
set_option maxRecDepth 100000
set_option linter.unusedSimpArgs false
open Go.RowKit


/-- The last m bytes of a number, the highest first. -/
def be (m n : Nat) : List UInt8 := (List.range m).map fun i => UInt8.ofNat (n / 256 ^ (m - 1 - i))
theorem be_len (m n : Nat) : (be m n).length = m := by unfold be; rw [List.length_map, List.length_range]
theorem be_at (m n j : Nat) (h : j < m) : (be m n)[j]? = some (UInt8.ofNat (n / 256 ^ (m - 1 - j))) := by
  unfold be; rw [List.getElem?_map, List.getElem?_range h, Option.map_some]
theorem be8_eq (n : Nat) : be8 n = be 8 n := rfl
/-- What lies there when the last m - j bytes are written. -/
def part (x : List UInt8) (m n j : Nat) : List UInt8 := x.take j ++ (be m n).drop j
theorem part_full (x : List UInt8) (m n : Nat) (h : x.length = m) : part x m n m = x := by
  unfold part; rw [List.drop_of_length_le (by rw [be_len]; omega), List.append_nil, List.take_of_length_le (by omega)]
theorem part_none (x : List UInt8) (m n : Nat) : part x m n 0 = be m n := by
  unfold part; rw [List.take_zero, List.nil_append, List.drop_zero]
theorem part_len (x : List UInt8) (m n j : Nat) (h : x.length = m) (hj : j ≤ m) : (part x m n j).length = m := by
  unfold part; rw [List.length_append, List.length_take, List.length_drop, be_len]; omega
theorem part_step (p x q : List UInt8) (m n j : Nat) (h : x.length = m) (hj : j < m) :
    (bcells (p ++ part x m n (j + 1) ++ q)).setIfInBounds (p.length + j) (u8 (UInt8.ofNat (n / 256 ^ (m - 1 - j)))) = bcells (p ++ part x m n j ++ q) := by
  have e : (bcells (p ++ part x m n (j + 1) ++ q)).setIfInBounds (p.length + j) (u8 (UInt8.ofNat (n / 256 ^ (m - 1 - j)))) = bcells ((p ++ part x m n (j + 1) ++ q).set (p.length + j) (UInt8.ofNat (n / 256 ^ (m - 1 - j)))) := by
    unfold bcells; rw [List.setIfInBounds_toArray, List.map_set]
  rw [e]
  congr 1
  rw [List.append_assoc, List.append_assoc, List.set_append_right _ _ (by omega), Nat.add_sub_cancel_left]
  congr 1
  have hl := part_len x m n (j + 1) h (by omega)
  rw [List.set_append_left _ _ (by omega)]
  congr 1
  apply List.ext_getElem?
  intro k
  rw [List.getElem?_set]
  unfold part
  have ht : (x.take (j + 1)).length = j + 1 := by rw [List.length_take]; omega
  have ht2 : (x.take j).length = j := by rw [List.length_take]; omega
  by_cases hk : j = k
  · subst hk
    rw [if_pos rfl, if_pos (by rw [List.length_append, ht]; omega), List.getElem?_append_right (by omega), ht2, Nat.sub_self, List.getElem?_drop, Nat.add_zero, be_at m n j hj]
  · rw [if_neg hk]
    by_cases hk2 : k < j
    · rw [List.getElem?_append_left (by omega), List.getElem?_append_left (by omega), List.getElem?_take_of_lt (by omega), List.getElem?_take_of_lt hk2]
    · rw [List.getElem?_append_right (by omega), List.getElem?_append_right (by omega), ht, ht2, List.getElem?_drop, List.getElem?_drop]
      congr 1
      omega

set_option maxRecDepth 100000 in
set_option maxHeartbeats 1000000 in
theorem put_ok (g o m c : Nat) (t : TypeId) (p x q : List UInt8) (n : Nat) (w : World) (hB : Bk w g t (bcells (p ++ x ++ q))) (ho : p.length = o) (hm : x.length = m) (h8 : m ≤ 8) (hn : n < 18446744073709551616) :
    Calls Tryz.prog 158 #[.slice (some ⟨g, o, none⟩) m c, .int .u64 n] w fun e w' => e = .returned (.tuple #[]) ∧ Bk w' g t (bcells (p ++ be m n ++ q)) ∧ Below g w w' := by
  have HB := Lib.hid hB
  have HO := Lib.hid ho
  have HM := Lib.hid hm
  clear hB ho hm
  go_enter Tryz.func158, Tryz.ntmps158
  go_wp2_with fail
  go_loopw [7, 1] (fun v7 v1 wr => ∃ i r : Nat, i ≤ m ∧ v7 = .int .i64 i ∧ v1 = .int .u64 r ∧ r < 18446744073709551616 ∧ Hid (r = n / 256 ^ i) ∧ Hid (Bk wr g t (bcells (p ++ part x m n (m - i) ++ q))) ∧ Hid (Below g w wr)) (fun v7 _ _ => m - (intOf v7).toNat)
  case atStart => exact ⟨0, n, by omega, rfl, rfl, hn, Lib.hid (by rw [Nat.pow_zero, Nat.div_one]), Lib.hid (by rw [Nat.sub_zero, part_full _ _ _ HM.out]; exact HB.out), Lib.hid (Below.refl _ _)⟩
  case round =>
    obtain ⟨i, r, hi, rfl, rfl, hr, HR, HC, HBB⟩ := hrel
    by_cases hi1 : i < m
    · obtain ⟨j, hj⟩ : ∃ j, m - i = j + 1 := ⟨m - i - 1, by omega⟩
      obtain ⟨m1, hm1⟩ : ∃ m1, m1 + 1 = m := ⟨m - 1, by omega⟩
      obtain ⟨y1, z1⟩ := iwrap ((m : Int) - 1) m1 (by omega) (by omega)
      obtain ⟨y2, z2⟩ := iwrap ((m1 : Int) - (i : Int)) j (by omega) (by omega)
      have bj : (j : Int) < (m : Int) := by omega
      have hlen : o + j < (bcells (p ++ part x m n (j + 1) ++ q)).size := by
        rw [bcells_size, List.length_append, List.length_append, part_len x m n (j + 1) HM.out (by omega), HO.out]; omega
      rw [hj] at HC
      have HST := Lib.hid (part_step p x q m n j HM.out (by omega))
      obtain ⟨v, hv⟩ : ∃ v, (bcells (p ++ part x m n (j + 1) ++ q))[o + j]? = some v := ⟨_, Array.getElem?_eq_getElem hlen⟩
      have hc : wr.cell? ⟨g, o + j, none⟩ = some v := (HC.out.cell _).trans hv
      have hf : wr.frozen? ⟨g, o + j, none⟩ = false := HC.out.frozen _
      have HJ := Lib.hid hj
      clear hj hlen hv
      go_wp2_with fail
      go_roundw
      case rel =>
        have e1 : n / 256 ^ i = r := HR.out.symm
        have e2 : m - 1 - j = i := by have := HJ.out; omega
        refine ⟨i + 1, r / 256, by omega, by go_num, by simp, Nat.lt_of_le_of_lt (Nat.div_le_self _ _) hr, Lib.hid ?_, Lib.hid ?_, Lib.hid ?_⟩
        · rw [HR.out, Nat.div_div_eq_div_mul, Nat.pow_succ]
        · rw [show m - (i + 1) = j by have := HJ.out; omega, ← HST.out, HO.out, e2, e1]
          have e3 : Go.Proofs.YtekobdmlgbffnaaGreatDoor.u8 (UInt8.ofNat r) = .int .u8 ((r : Int) % 256) := by
            show Value.int .u8 (((UInt8.ofNat r).toNat : Nat) : Int) = _
            rw [UInt8.toNat_ofNat']; simp
          rw [e3]
          exact HC.out.set (o + j) _
        · exact HBB.out.setCell (p := ⟨g, o + j, none⟩) (Nat.le_refl _) _
      case measure => simp [intOf]; omega
    · have hi2 : i = m := by omega
      have HI := Lib.hid hi2
      clear hi2
      go_wp2_with fail
      go_end0
      refine ⟨rfl, ?_, HBB.out⟩
      have := HC.out
      rw [HI.out, Nat.sub_self, part_none] at this
      exact this
end Go.Proofs.YtekobdmlgbffnaaGreatDoor
