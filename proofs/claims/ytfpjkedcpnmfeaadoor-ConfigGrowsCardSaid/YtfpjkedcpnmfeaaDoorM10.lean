/- CgP3, CgP4, CgP5, CgP6, CgP7: texts of this seat, one behind the other. -/
import Derived.Test.YtfpjkedcpnmfeaaDoorM8
import Derived.Test.YtfpjkedcpnmfeaaDoorM3
import Derived.BigRegion
import Derived.Test.YtfpjkedcpnmfeaaDoorM9
import Derived.Test.YtfpjkedcpnmfeaaDoorM5
import Derived.Test.YtfpjkedcpnmfeaaDoorM4
import Derived.MapKept
import Derived.Maps.OwnOps
/- (*reading).tenant: its contract. -/
namespace Go.Proofs.YtfpjkedcpnmfeaaDoor
set_option linter.unusedVariables false
set_option linter.unusedSimpArgs false
open Go.RowKit

theorem fewO_some {l : List UInt8} {n : Nat} (h : fewO (bs l) = some n) : decO l = some n ∧ n ≤ 8 := by
  unfold fewO at h
  unfold decO
  cases hp : parseS (bs l) with
  | none => rw [hp] at h; cases h
  | some p =>
    obtain ⟨m, k⟩ := p
    rw [hp] at h
    simp only at h
    by_cases h8 : m ≤ 8
    · rw [if_pos h8] at h
      obtain rfl : m = n := by injection h
      exact ⟨rfl, h8⟩
    · rw [if_neg h8] at h; cases h
theorem fewO_none {l : List UInt8} (h : fewO (bs l) = none) : ∀ n, decO l = some n → 8 < n := by
  intro n hn
  unfold fewO at h
  unfold decO at hn
  cases hp : parseS (bs l) with
  | none => rw [hp] at hn; cases hn
  | some p =>
    obtain ⟨m, k⟩ := p
    rw [hp] at h hn
    obtain rfl : m = n := by injection hn
    simp only at h
    by_cases h8 : m ≤ 8
    · rw [if_pos h8] at h; cases h
    · omega
theorem tenant_some {c : Cg} {l0 l1 l2 : List UInt8} {a d : Nat} (h1 : fewO (bs l1) = some a) (h2 : fewO (bs l2) = some d) : readTenant c [l0, l1, l2] = some { c with tens := c.tens ++ [⟨bs l0, a, d, [], []⟩] } := by
  simp only [readTenant, (fewO_some h1).1, (fewO_some h2).1]
theorem some_of {v : Option Nat} {d : Nat} (h : v.getD 0 = d) (hs : v.isSome = true) : v = some d := by cases v <;> simp_all
theorem okC_bad {c : Cg} {t : Tn} (h : tenB t = false) : okC (some { c with tens := c.tens ++ [t] }) = none := by
  have : ¬ cfgB { c with tens := c.tens ++ [t] } = true := fun hh => by
    have := (cfgB_parts hh).2.2.2.2.2.2 t (by simp)
    rw [h] at this; cases this
  simp only [okC, if_neg this]
theorem tenant_none {c : Cg} {l0 l1 l2 : List UInt8} (h : fewO (bs l1) = none ∨ fewO (bs l2) = none) : okC (readTenant c [l0, l1, l2]) = none := by
  simp only [readTenant]
  cases h1 : decO l1 with
  | none => rfl
  | some a =>
    cases h2 : decO l2 with
    | none => rfl
    | some d =>
      simp only
      refine okC_bad ?_
      rcases h with h | h
      · have := fewO_none h a h1
        have hq : quoB (a : Int) = false := by unfold quoB; simp; omega
        simp [tenB, hq]
      · have := fewO_none h d h2
        have hq : quoB (d : Int) = false := by unfold quoB; simp; omega
        simp [tenB, hq]

set_option maxRecDepth 100000 in
set_option maxHeartbeats 8000000 in
theorem tenant_ok (u : World) (B r E : Nat) (x : Cv) (b o cw : Nat) (l0 l1 l2 : List UInt8) (h : Sc u B r E x) (hx : x.ts.length ≤ 8) (hw : Wd u B b o [bs l0, bs l1, bs l2]) (z0 : l0.length ≤ 140737488355328) (z1 : l1.length ≤ 140737488355328) (z2 : l2.length ≤ 140737488355328) :
    Calls Tryd.prog 48 #[.pointer (some ⟨r, 0, none⟩), .slice (some ⟨b, o, none⟩) 3 cw] u (Rv u B r (readTenant x.cg [l0, l1, l2])) := by
  have HZ0 := Lib.hid (show (bs l0).size ≤ 140737488355328 by rw [bs_size]; exact z0)
  have HF1 := Lib.hid (fun w => few_ok (bs l1) w (by rw [bs_size]; exact z1))
  have HF2 := Lib.hid (fun w => few_ok (bs l2) w (by rw [bs_size]; exact z2))
  obtain ⟨a0, a1, a2, a3, ts, A, c⟩ := x
  dsimp only at hx
  obtain ⟨n, hn⟩ : ∃ n, ts.length = n := ⟨_, rfl⟩
  have HS := Lib.hid h
  have HW := Lib.hid hw
  have w1 : u.cell? ⟨b, o + 1, none⟩ = some (.string (bs l1)) := hw.at_ 1 (by simp)
  obtain ⟨v1, hv1⟩ : ∃ v, fewO (bs l1) = v := ⟨_, rfl⟩
  obtain ⟨v2, hv2⟩ : ∃ v, fewO (bs l2) = v := ⟨_, rfl⟩
  rw [hv1] at HF1
  rw [hv2] at HF2
  have HO := Lib.hid (And.intro hv1 hv2)
  obtain ⟨d1, hd1⟩ : ∃ d, v1.getD 0 = d := ⟨_, rfl⟩
  obtain ⟨d2, hd2⟩ : ∃ d, v2.getD 0 = d := ⟨_, rfl⟩
  obtain ⟨s1, hs1⟩ : ∃ d, v1.isSome = d := ⟨_, rfl⟩
  obtain ⟨s2, hs2⟩ : ∃ d, v2.isSome = d := ⟨_, rfl⟩
  rw [hd1, hs1] at HF1
  rw [hd2, hs2] at HF2
  have HD := Lib.hid (And.intro (And.intro hd1 hs1) (And.intro hd2 hs2))
  have HN := Lib.hid hn
  rw [hn] at hx
  clear h hw hv1 hv2 hd1 hd2 hs1 hs2 hn z0 z1 z2
  go_enter Tryd.func48, Tryd.ntmps48
  go_upto_region 3 with (go_at_call 60; first | ((with_reducible refine (HF1.out _).mono ?_); rintro e u1 ⟨rfl, hb1⟩; have HS1 := Lib.hid (HS.out.on hb1); have HW1 := Lib.hid (HW.out.on hb1); have HC1 := Lib.hid (Ch.of (B := B) (r := r) hb1); clear hb1; have w2 : u1.cell? ⟨b, o + 2, none⟩ = some (.string (bs l2)) := HW1.out.at_ 2 (by simp)) | ((with_reducible refine (HF2.out _).mono ?_); rintro e u2 ⟨rfl, hb2⟩; have HS2 := Lib.hid (HS1.out.on hb2); have HW2 := Lib.hid (HW1.out.on hb2); have HC2 := Lib.hid (HC1.out.trans (Ch.of hb2)); clear hb2))
  have w0 : u2.cell? ⟨b, o, none⟩ = some (.string (bs l0)) := HW2.out.at_ 0 (by simp)
  have c4 : u2.cell? ⟨r, 4, none⟩ = some (.slice A n c) := (HS2.out.blk.cell 4).trans (by rw [← HN.out]; rfl)
  clear w1 w2
  have HSD := Lib.hid (show Sc u2.drew B r E ⟨a0, a1, a2, a3, ts, A, c⟩ from HS2.out.drewN 1)
  have HCD := Lib.hid (show Ch B r u u2.drew from HC2.out.drewN 1)
  have hbB := HW2.out.hb
  have hbl := HW2.out.lt
  have HSA := Lib.hid (show Sc (u2.drew.alloc (.cells #[.string (bs l0), .int .i64 (d1 : Int), .int .i64 (d2 : Int), .slice none 0 0, .slice none 0 0] 38)) B r E ⟨a0, a1, a2, a3, ts, A, c⟩ from HSD.out.on ((Below.refl _ _).alloc (Nat.le_refl _) _))
  have HWB := Lib.hid (show (Value.slice A n c).ownBlock = some b → False from fun e => by
    obtain ⟨_, _, cs, k1⟩ := HSA.out.row.block n b e
    obtain ⟨cs2, k2⟩ := HW2.out.bk
    exact k1.ty ((k2.drew).alloc (.cells #[.string (bs l0), .int .i64 (d1 : Int), .int .i64 (d2 : Int), .slice none 0 0, .slice none 0 0] 38)) (by decide) rfl)
  have HBK := Lib.hid (Bk.new u2.drew 38 #[.string (bs l0), .int .i64 (d1 : Int), .int .i64 (d2 : Int), .slice none 0 0, .slice none 0 0])
  have c4d : u2.drew.cell? ⟨r, 4, none⟩ = some (.slice A n c) := c4
  have c4a : (u2.drew.alloc (.cells #[.string (bs l0), .int .i64 (d1 : Int), .int .i64 (d2 : Int), .slice none 0 0, .slice none 0 0] 38)).cell? ⟨r, 4, none⟩ = some (.slice A n c) := (HSA.out.blk.cell 4).trans (by rw [← HN.out]; rfl)
  have c4b : (u2.alloc (.cells #[.string (bs l0), .int .i64 (d1 : Int), .int .i64 (d2 : Int), .slice none 0 0, .slice none 0 0] 38)).cell? ⟨r, 4, none⟩ = some (.slice A n c) := c4a
  have w0a : (u2.drew.alloc (.cells #[.string (bs l0), .int .i64 (d1 : Int), .int .i64 (d2 : Int), .slice none 0 0, .slice none 0 0] 38)).cell? ⟨b, o, none⟩ = some (.string (bs l0)) := (((Below.refl u2.drew.heap.size u2.drew).alloc (Nat.le_refl _) _).cell (p := ⟨b, o, none⟩) hbl).trans w0
  try simp only [List.cons_append, List.nil_append]
  refine wp_region_held_drew (S := fun wz => wz.cell? ⟨b, o, none⟩ = some (.string (bs l0))) (by kernel_rfl) (w0) (fun hHeld => ?_)
  refine take_at (some 23) (i := 0) (v := ?_) rfl rfl (by kernel_rfl) (by kernel_rfl) (by kernel_rfl) (fun _ _ _ h => h) (Or.inl ⟨by kernel_rfl, ?_⟩) hHeld ?_
  rotate_left
  · intro wz hSw; have hw0 := hSw; go_simp; try (with_reducible rfl)
  try simp only [Act.put, List.setIfInBounds_toArray, List.set_cons_zero, List.set_cons_succ, List.getElem_toArray, List.getElem_cons_succ, List.getElem_cons_zero]
  refine take_at (some 24) (i := 1) (v := ?_) rfl rfl (by kernel_rfl) (by kernel_rfl) (by kernel_rfl) (fun _ _ _ h => h) (Or.inl ⟨by kernel_rfl, ?_⟩) hHeld ?_
  rotate_left
  · intro wz hSw; have hw0 := hSw; go_simp; try (with_reducible rfl)
  try simp only [Act.put, List.setIfInBounds_toArray, List.set_cons_zero, List.set_cons_succ, List.getElem_toArray, List.getElem_cons_succ, List.getElem_cons_zero]
  refine take_at (some 25) (i := 2) (v := ?_) rfl rfl (by kernel_rfl) (by kernel_rfl) (by kernel_rfl) (fun _ _ _ h => h) (Or.inl ⟨by kernel_rfl, ?_⟩) hHeld ?_
  rotate_left
  · intro wz hSw; have hw0 := hSw; go_simp; try (with_reducible rfl)
  try simp only [Act.put, List.setIfInBounds_toArray, List.set_cons_zero, List.set_cons_succ, List.getElem_toArray, List.getElem_cons_succ, List.getElem_cons_zero]
  refine take_at (some 26) (i := 3) (v := ?_) rfl rfl (by kernel_rfl) (by kernel_rfl) (by kernel_rfl) (fun _ _ _ h => h) (Or.inl ⟨by kernel_rfl, ?_⟩) hHeld ?_
  rotate_left
  · intro wz hSw; have hw0 := hSw; go_simp; try (with_reducible rfl)
  try simp only [Act.put, List.setIfInBounds_toArray, List.set_cons_zero, List.set_cons_succ, List.getElem_toArray, List.getElem_cons_succ, List.getElem_cons_zero]
  refine take_at (some 27) (i := 4) (v := ?_) rfl rfl (by kernel_rfl) (by kernel_rfl) (by kernel_rfl) (fun _ _ _ h => h) (Or.inl ⟨by kernel_rfl, ?_⟩) hHeld ?_
  rotate_left
  · intro wz hSw; have hw0 := hSw; go_simp; try (with_reducible rfl)
  try simp only [Act.put, List.setIfInBounds_toArray, List.set_cons_zero, List.set_cons_succ, List.getElem_toArray, List.getElem_cons_succ, List.getElem_cons_zero]
  refine take_at (some 29) (i := 6) (v := ?_) rfl rfl (by kernel_rfl) (by kernel_rfl) (by kernel_rfl) (fun _ _ _ h => h) (Or.inl ⟨by kernel_rfl, ?_⟩) hHeld ?_
  rotate_left
  · intro wz hSw; have hw0 := hSw; go_simp; try (with_reducible rfl)
  try simp only [Act.put, List.setIfInBounds_toArray, List.set_cons_zero, List.set_cons_succ, List.getElem_toArray, List.getElem_cons_succ, List.getElem_cons_zero]
  refine take_at (some 30) (i := 7) (v := ?_) rfl rfl (by kernel_rfl) (by kernel_rfl) (by kernel_rfl) (fun _ _ _ h => h) (Or.inl ⟨by kernel_rfl, ?_⟩) hHeld ?_
  rotate_left
  · intro wz hSw; have hw0 := hSw; go_simp; try (with_reducible rfl)
  try simp only [Act.put, List.setIfInBounds_toArray, List.set_cons_zero, List.set_cons_succ, List.getElem_toArray, List.getElem_cons_succ, List.getElem_cons_zero]
  refine take_at (some 31) (i := 8) (v := ?_) rfl rfl (by kernel_rfl) (by kernel_rfl) (by kernel_rfl) (fun _ _ _ h => h) (Or.inl ⟨by kernel_rfl, ?_⟩) hHeld ?_
  rotate_left
  · intro wz hSw; have hw0 := hSw; go_simp; try (with_reducible rfl)
  try simp only [Act.put, List.setIfInBounds_toArray, List.set_cons_zero, List.set_cons_succ, List.getElem_toArray, List.getElem_cons_succ, List.getElem_cons_zero]
  refine take_at (some 32) (i := 9) (v := ?_) rfl rfl (by kernel_rfl) (by kernel_rfl) (by kernel_rfl) (fun _ _ _ h => h) (Or.inl ⟨by kernel_rfl, ?_⟩) hHeld ?_
  rotate_left
  · intro wz hSw; have hw0 := hSw; go_simp; try (with_reducible rfl)
  try simp only [Act.put, List.setIfInBounds_toArray, List.set_cons_zero, List.set_cons_succ, List.getElem_toArray, List.getElem_cons_succ, List.getElem_cons_zero]
  refine take_at (some 33) (i := 10) (v := ?_) rfl rfl (by kernel_rfl) (by kernel_rfl) (by kernel_rfl) (fun _ _ _ h => h) (Or.inl ⟨by kernel_rfl, ?_⟩) hHeld ?_
  rotate_left
  · intro wz hSw; have hw0 := hSw; go_simp; try (with_reducible rfl)
  try simp only [Act.put, List.setIfInBounds_toArray, List.set_cons_zero, List.set_cons_succ, List.getElem_toArray, List.getElem_cons_succ, List.getElem_cons_zero]
  refine take_at (some 34) (i := 11) (v := ?_) rfl rfl (by kernel_rfl) (by kernel_rfl) (by kernel_rfl) (fun _ _ _ h => h) (Or.inl ⟨by kernel_rfl, ?_⟩) hHeld ?_
  rotate_left
  · intro wz hSw; have hw0 := hSw; go_simp; try (with_reducible rfl)
  try simp only [Act.put, List.setIfInBounds_toArray, List.set_cons_zero, List.set_cons_succ, List.getElem_toArray, List.getElem_cons_succ, List.getElem_cons_zero]
  refine wpAnyH_ready (rs := [5, 12]) (by kernel_rfl) (by simp) (AllReadyH.cons rfl (fun K hK => ?_) (AllReadyH.cons rfl (fun K hK => ?_) AllReadyH.nil))
  · rw [if_pos (by kernel_rfl)]
    go_simp
    refine hK.out _ _ w0 (fun hHeld => ?_)
    try simp only [Act.put, List.setIfInBounds_toArray, List.set_cons_zero, List.set_cons_succ, List.getElem_toArray, List.getElem_cons_succ, List.getElem_cons_zero]
    refine wpAnyH_ready (rs := [12]) (by kernel_rfl) (by simp) (AllReadyH.cons rfl (fun K hK => ?_) AllReadyH.nil)
    rw [if_pos (by kernel_rfl)]
    go_simp
    refine hK.out _ _ w0a (fun hHeld => ?_)
    try simp only [Act.put, List.setIfInBounds_toArray, List.set_cons_zero, List.set_cons_succ, List.getElem_toArray, List.getElem_cons_succ, List.getElem_cons_zero]
    refine wpAnyH_ready (rs := [13]) (by kernel_rfl) (by simp) (AllReadyH.cons rfl (fun K hK => ?_) AllReadyH.nil)
    rw [if_pos (by kernel_rfl)]
    refine op_rows roT (.tmp 28) (.tmp 35) rfl n rfl HN.out HSA.out.row [⟨⟨bs l0, d1, d2, [], []⟩, none, 0, none, 0⟩] _ 1 _ rfl rfl (fun h => by cases h) (Rw.bk HBK.out) (by omega) (Nat.le_trans HSA.out.BE HSA.out.ES) (n + 1) rfl ?_
    intro A4 c4' w4 ho4 hg4 hb4
    have w04 : w4.cell? ⟨b, o, none⟩ = some (.string (bs l0)) := hg4.cell w0a (fun e => HWB.out e.symm)
    have HT := Lib.hid (HSA.out.addT ⟨bs l0, d1, d2, [], []⟩ rfl rfl (HZ0.out) hg4 ho4)
    have HCT := Lib.hid (show Ch B r u (w4.setCell ⟨r, 4, none⟩ (.slice A4 (n + 1) c4')) from ((HCD.out.trans (Ch.alloc _ _)).trans (Ch.grown hg4 HSA.out.row (Nat.le_refl _))).trans (Ch.set _ (p := ⟨r, 4, none⟩) (.inl rfl) _))
    have k4 := grown_ty hg4 HSA.out.row HSA.out.blk (.inr HSA.out.rB)
    have q4 := k4.cell 4
    have f4 := k4.frozen 4
    simp only [ccs, List.getElem?_toArray, List.getElem?_cons_zero, List.getElem?_cons_succ] at q4
    clear ho4 hg4 hb4 k4
    refine hK.out _ _ w04 (fun hHeld => ?_)
    try simp only [Act.put, List.setIfInBounds_toArray, List.set_cons_zero, List.set_cons_succ, List.getElem_toArray, List.getElem_cons_succ, List.getElem_cons_zero]
    refine take_at (some 37) (i := 14) (v := ?_) rfl rfl (by kernel_rfl) (by kernel_rfl) (by kernel_rfl) (fun _ _ _ h => h) (Or.inl ⟨by kernel_rfl, ?_⟩) hHeld ?_
    rotate_left
    · intro wz hSw; go_simp; try (with_reducible rfl)
    try simp only [Act.put, List.setIfInBounds_toArray, List.set_cons_zero, List.set_cons_succ, List.getElem_toArray, List.getElem_cons_succ, List.getElem_cons_zero]
    refine take_at (some 38) (i := 15) (v := ?_) rfl rfl (by kernel_rfl) (by kernel_rfl) (by kernel_rfl) (fun _ _ _ h => h) (Or.inl ⟨by kernel_rfl, ?_⟩) hHeld ?_
    rotate_left
    · intro wz hSw; go_simp; try (with_reducible rfl)
    try simp only [Act.put, List.setIfInBounds_toArray, List.set_cons_zero, List.set_cons_succ, List.getElem_toArray, List.getElem_cons_succ, List.getElem_cons_zero]
    refine take_at (some 39) (i := 16) (v := ?_) rfl rfl (by kernel_rfl) (by kernel_rfl) (by kernel_rfl) (fun _ _ _ h => h) (Or.inl ⟨by kernel_rfl, ?_⟩) hHeld ?_
    rotate_left
    · intro wz hSw; go_simp; try (with_reducible rfl)
    try simp only [Act.put, List.setIfInBounds_toArray, List.set_cons_zero, List.set_cons_succ, List.getElem_toArray, List.getElem_cons_succ, List.getElem_cons_zero]
    refine wpAnyH_ready (rs := [17]) (by kernel_rfl) (by simp) (AllReadyH.cons rfl (fun K hK => ?_) AllReadyH.nil)
    rw [if_pos (by kernel_rfl)]
    go_simp
    refine hK.out _ _ (show (w4.setCell ⟨r, 4, none⟩ (.slice A4 (n + 1) c4')).cell? ⟨b, o, none⟩ = some (.string (bs l0)) from (World.cell?_of_block (w := w4) (a := ⟨b, o, none⟩) (Below.heap_setCell _ _ _ _ (by show b ≠ r; have := HSA.out.rB; omega))).trans w04) (fun hHeld => ?_)
    try simp only [Act.put, List.setIfInBounds_toArray, List.set_cons_zero, List.set_cons_succ, List.getElem_toArray, List.getElem_cons_succ, List.getElem_cons_zero]
    refine wpAnyH_done (by kernel_rfl) ?_ _
    clear hHeld
    cases s1 <;> cases s2
    all_goals go_wp2_with fail
    all_goals go_ret
    · exact ⟨⟨false, rfl, (fun hh => by cases hh), fun _ => tenant_none (.inl (by rw [HO.out.1]; exact Option.not_isSome_iff_eq_none.1 (by rw [HD.out.1.2]; simp)))⟩, HCT.out⟩
    · exact ⟨⟨false, rfl, (fun hh => by cases hh), fun _ => tenant_none (.inl (by rw [HO.out.1]; exact Option.not_isSome_iff_eq_none.1 (by rw [HD.out.1.2]; simp)))⟩, HCT.out⟩
    · exact ⟨⟨false, rfl, (fun hh => by cases hh), fun _ => tenant_none (.inr (by rw [HO.out.2]; exact Option.not_isSome_iff_eq_none.1 (by rw [HD.out.2.2]; simp)))⟩, HCT.out⟩
    · refine ⟨⟨true, rfl, fun _ => ⟨w4.heap.size, ⟨a0, a1, a2, a3, ts ++ [⟨⟨bs l0, d1, d2, [], []⟩, none, 0, none, 0⟩], A4, c4'⟩, ?_, ?_⟩, fun hh => by cases hh⟩, HCT.out⟩
      · have := HT.out
        simp only [HN.out] at this
        exact this
      · rw [tenant_some (a := d1) (d := d2) (by rw [HO.out.1]; exact some_of HD.out.1.1 HD.out.1.2) (by rw [HO.out.2]; exact some_of HD.out.2.1 HD.out.2.2)]
        simp only [Cv.cg, List.map_append, List.map_cons, List.map_nil]
  · rw [if_pos (by kernel_rfl)]
    go_simp
    refine hK.out _ _ w0a (fun hHeld => ?_)
    try simp only [Act.put, List.setIfInBounds_toArray, List.set_cons_zero, List.set_cons_succ, List.getElem_toArray, List.getElem_cons_succ, List.getElem_cons_zero]
    refine wpAnyH_ready (rs := [5]) (by kernel_rfl) (by simp) (AllReadyH.cons rfl (fun K hK => ?_) AllReadyH.nil)
    rw [if_pos (by kernel_rfl)]
    go_simp
    refine hK.out _ _ w0a (fun hHeld => ?_)
    try simp only [Act.put, List.setIfInBounds_toArray, List.set_cons_zero, List.set_cons_succ, List.getElem_toArray, List.getElem_cons_succ, List.getElem_cons_zero]
    refine wpAnyH_ready (rs := [13]) (by kernel_rfl) (by simp) (AllReadyH.cons rfl (fun K hK => ?_) AllReadyH.nil)
    rw [if_pos (by kernel_rfl)]
    refine op_rows roT (.tmp 28) (.tmp 35) rfl n rfl HN.out HSA.out.row [⟨⟨bs l0, d1, d2, [], []⟩, none, 0, none, 0⟩] _ 1 _ rfl rfl (fun h => by cases h) (Rw.bk HBK.out) (by omega) (Nat.le_trans HSA.out.BE HSA.out.ES) (n + 1) rfl ?_
    intro A4 c4' w4 ho4 hg4 hb4
    have w04 : w4.cell? ⟨b, o, none⟩ = some (.string (bs l0)) := hg4.cell w0a (fun e => HWB.out e.symm)
    have HT := Lib.hid (HSA.out.addT ⟨bs l0, d1, d2, [], []⟩ rfl rfl (HZ0.out) hg4 ho4)
    have HCT := Lib.hid (show Ch B r u (w4.setCell ⟨r, 4, none⟩ (.slice A4 (n + 1) c4')) from ((HCD.out.trans (Ch.alloc _ _)).trans (Ch.grown hg4 HSA.out.row (Nat.le_refl _))).trans (Ch.set _ (p := ⟨r, 4, none⟩) (.inl rfl) _))
    have k4 := grown_ty hg4 HSA.out.row HSA.out.blk (.inr HSA.out.rB)
    have q4 := k4.cell 4
    have f4 := k4.frozen 4
    simp only [ccs, List.getElem?_toArray, List.getElem?_cons_zero, List.getElem?_cons_succ] at q4
    clear ho4 hg4 hb4 k4
    refine hK.out _ _ w04 (fun hHeld => ?_)
    try simp only [Act.put, List.setIfInBounds_toArray, List.set_cons_zero, List.set_cons_succ, List.getElem_toArray, List.getElem_cons_succ, List.getElem_cons_zero]
    refine take_at (some 37) (i := 14) (v := ?_) rfl rfl (by kernel_rfl) (by kernel_rfl) (by kernel_rfl) (fun _ _ _ h => h) (Or.inl ⟨by kernel_rfl, ?_⟩) hHeld ?_
    rotate_left
    · intro wz hSw; go_simp; try (with_reducible rfl)
    try simp only [Act.put, List.setIfInBounds_toArray, List.set_cons_zero, List.set_cons_succ, List.getElem_toArray, List.getElem_cons_succ, List.getElem_cons_zero]
    refine take_at (some 38) (i := 15) (v := ?_) rfl rfl (by kernel_rfl) (by kernel_rfl) (by kernel_rfl) (fun _ _ _ h => h) (Or.inl ⟨by kernel_rfl, ?_⟩) hHeld ?_
    rotate_left
    · intro wz hSw; go_simp; try (with_reducible rfl)
    try simp only [Act.put, List.setIfInBounds_toArray, List.set_cons_zero, List.set_cons_succ, List.getElem_toArray, List.getElem_cons_succ, List.getElem_cons_zero]
    refine take_at (some 39) (i := 16) (v := ?_) rfl rfl (by kernel_rfl) (by kernel_rfl) (by kernel_rfl) (fun _ _ _ h => h) (Or.inl ⟨by kernel_rfl, ?_⟩) hHeld ?_
    rotate_left
    · intro wz hSw; go_simp; try (with_reducible rfl)
    try simp only [Act.put, List.setIfInBounds_toArray, List.set_cons_zero, List.set_cons_succ, List.getElem_toArray, List.getElem_cons_succ, List.getElem_cons_zero]
    refine wpAnyH_ready (rs := [17]) (by kernel_rfl) (by simp) (AllReadyH.cons rfl (fun K hK => ?_) AllReadyH.nil)
    rw [if_pos (by kernel_rfl)]
    go_simp
    refine hK.out _ _ (show (w4.setCell ⟨r, 4, none⟩ (.slice A4 (n + 1) c4')).cell? ⟨b, o, none⟩ = some (.string (bs l0)) from (World.cell?_of_block (w := w4) (a := ⟨b, o, none⟩) (Below.heap_setCell _ _ _ _ (by show b ≠ r; have := HSA.out.rB; omega))).trans w04) (fun hHeld => ?_)
    try simp only [Act.put, List.setIfInBounds_toArray, List.set_cons_zero, List.set_cons_succ, List.getElem_toArray, List.getElem_cons_succ, List.getElem_cons_zero]
    refine wpAnyH_done (by kernel_rfl) ?_ _
    clear hHeld
    cases s1 <;> cases s2
    all_goals go_wp2_with fail
    all_goals go_ret
    · exact ⟨⟨false, rfl, (fun hh => by cases hh), fun _ => tenant_none (.inl (by rw [HO.out.1]; exact Option.not_isSome_iff_eq_none.1 (by rw [HD.out.1.2]; simp)))⟩, HCT.out⟩
    · exact ⟨⟨false, rfl, (fun hh => by cases hh), fun _ => tenant_none (.inl (by rw [HO.out.1]; exact Option.not_isSome_iff_eq_none.1 (by rw [HD.out.1.2]; simp)))⟩, HCT.out⟩
    · exact ⟨⟨false, rfl, (fun hh => by cases hh), fun _ => tenant_none (.inr (by rw [HO.out.2]; exact Option.not_isSome_iff_eq_none.1 (by rw [HD.out.2.2]; simp)))⟩, HCT.out⟩
    · refine ⟨⟨true, rfl, fun _ => ⟨w4.heap.size, ⟨a0, a1, a2, a3, ts ++ [⟨⟨bs l0, d1, d2, [], []⟩, none, 0, none, 0⟩], A4, c4'⟩, ?_, ?_⟩, fun hh => by cases hh⟩, HCT.out⟩
      · have := HT.out
        simp only [HN.out] at this
        exact this
      · rw [tenant_some (a := d1) (d := d2) (by rw [HO.out.1]; exact some_of HD.out.1.1 HD.out.1.2) (by rw [HO.out.2]; exact some_of HD.out.2.1 HD.out.2.2)]
        simp only [Cv.cg, List.map_append, List.map_cons, List.map_nil]
end Go.Proofs.YtfpjkedcpnmfeaaDoor

/- (*reading).net: its contract. (Written by gen_cgp4.py.) -/
namespace Go.Proofs.YtfpjkedcpnmfeaaDoor
set_option linter.unusedVariables false
set_option linter.unusedSimpArgs false
open Go.RowKit

/-- The last tenant's cells. -/
theorem Sc.lastCells {u : World} {B r E g : Nat} {a0 a1 a2 a3 : Int} {T : List Tv} {y : Tv} {c : Nat} (h : Sc u B r E ⟨a0, a1, a2, a3, T ++ [y], some ⟨g, 0, none⟩, c⟩) :
    u.cell? ⟨g, T.length * 5 + 3, none⟩ = some (.slice y.An y.t.nets.length y.cn) ∧ u.cell? ⟨g, T.length * 5 + 4, none⟩ = some (.slice y.Ak y.t.toks.length y.ck) ∧ u.frozen? ⟨g, T.length * 5 + 3, none⟩ = false ∧ u.frozen? ⟨g, T.length * 5 + 4, none⟩ = false := by
  obtain ⟨_, _, cs, hb⟩ := h.row.block 0 g rfl
  have hl : T.length < (T ++ [y]).length := by simp
  have hlt : ∀ j, j < 5 → T.length * 5 + j < (T ++ [y]).length * 5 := fun j hj => by rw [List.length_append, List.length_singleton]; omega
  have e := fun j (hj : j < 5) => (World.ownsRow.cellAt h.row (T.length * 5 + j) (hlt j hj)).trans (fl_at tcs_size (T ++ [y]) T.length hl j hj)
  refine ⟨(e 3 (by omega)).trans ?_, (e 4 (by omega)).trans ?_, hb.frozen _, hb.frozen _⟩
  · simp
  · simp
theorem Sc.form {u : World} {B r E : Nat} {a0 a1 a2 a3 : Int} {T : List Tv} {y : Tv} {A : Option Addr} {c : Nat} (h : Sc u B r E ⟨a0, a1, a2, a3, T ++ [y], A, c⟩) : ∃ g, A = some ⟨g, 0, none⟩ := by
  obtain ⟨g, cap, hv, _, _⟩ := World.ownsRow.form h.row (by simp)
  injection hv with h1 _ _
  exact ⟨g, h1⟩
theorem last_cg {a0 a1 a2 a3 : Int} {T : List Tv} {y : Tv} {A : Option Addr} {c : Nat} : lastC (Cv.cg ⟨a0, a1, a2, a3, T ++ [y], A, c⟩) = some y.t := by
  simp [lastC, Cv.cg]
theorem set_cg {a0 a1 a2 a3 : Int} {T : List Tv} {y : Tv} {A : Option Addr} {c : Nat} (t : Tn) {An Ak : Option Addr} {cn ck : Nat} : setC (Cv.cg ⟨a0, a1, a2, a3, T ++ [y], A, c⟩) t = Cv.cg ⟨a0, a1, a2, a3, T ++ [⟨t, An, cn, Ak, ck⟩], A, c⟩ := by
  simp [setC, Cv.cg]

set_option maxRecDepth 100000 in
set_option maxHeartbeats 8000000 in
theorem netl_none (u : World) (B r E : Nat) (x : Cv) (V : Value) (w0 : List UInt8) (h : Sc u B r E x) (hx : x.ts = []) :
    Calls Tryd.prog 49 #[.pointer (some ⟨r, 0, none⟩), V] u (Rv u B r (readNet x.cg [w0])) := by
  have c4 : u.cell? ⟨r, 4, none⟩ = some (.slice x.A 0 x.c) := (h.blk.cell 4).trans (by rw [show (0 : Nat) = x.ts.length by rw [hx]; rfl]; rfl)
  have HL := Lib.hid (last_none r x.A x.c u c4)
  have HN := Lib.hid (show okC (readNet x.cg [w0]) = none by simp [readNet, lastC, Cv.cg, hx, okC])
  clear c4 h hx
  go_enter Tryd.func49, Tryd.ntmps49
  go_wp2_with (go_at_call 61; refine HL.out.mono ?_; rintro e u1 ⟨rfl, rfl⟩)
  go_ret
  exact ⟨⟨false, rfl, (fun hh => by cases hh), fun _ => HN.out⟩, Ch.refl _ _ _⟩

set_option maxRecDepth 100000 in
set_option maxHeartbeats 8000000 in
theorem netl_some (u : World) (B r E g n : Nat) (a0 a1 a2 a3 : Int) (T : List Tv) (y : Tv) (c b o cw : Nat) (l0 : List UInt8) (h : Sc u B r E ⟨a0, a1, a2, a3, T ++ [y], some ⟨g, 0, none⟩, c⟩) (hT : T.length = n) (hn8 : n ≤ 8) (hy : y.t.nets.length ≤ 4) (hw : Wd u B b o [bs l0]) (z0 : l0.length ≤ 140737488355328) :
    Calls Tryd.prog 49 #[.pointer (some ⟨r, 0, none⟩), .slice (some ⟨b, o, none⟩) 1 cw] u (Rv u B r (readNet (Cv.cg ⟨a0, a1, a2, a3, T ++ [y], some ⟨g, 0, none⟩, c⟩) [l0])) := by
  obtain ⟨k3, k4, _, _⟩ := h.lastCells
  rw [hT] at k3 k4
  have c4 : u.cell? ⟨r, 4, none⟩ = some (.slice (some ⟨g, 0, none⟩) (n + 1) c) := (h.blk.cell 4).trans (by rw [← hT]; simp)
  have HL := Lib.hid (last_some r g n c u (by omega) c4)
  have HLC := Lib.hid (last_cg (a0 := a0) (a1 := a1) (a2 := a2) (a3 := a3) (T := T) (y := y) (A := some ⟨g, 0, none⟩) (c := c))
  have HT := Lib.hid hT
  obtain ⟨p, hp⟩ : ∃ p, y.t.nets.length = p := ⟨_, rfl⟩
  obtain ⟨q, hq⟩ : ∃ q, y.t.toks.length = q := ⟨_, rfl⟩
  rw [hp] at k3 hy
  rw [hq] at k4
  have HPQ := Lib.hid (And.intro hp hq)
  have HS := Lib.hid h
  by_cases hq0 : q = 0
  · subst hq0
    have HW := Lib.hid hw
    have w0 : u.cell? ⟨b, o, none⟩ = some (.string (bs l0)) := hw.at_ 0 (by simp)
    have HN := Lib.hid (fun w => net_ok (bs l0) w (by rw [bs_size]; exact z0))
    obtain ⟨O, hO⟩ : ∃ O, netO (bs l0) = O := ⟨_, rfl⟩
    rw [hO] at HN
    have HO := Lib.hid hO
    have hlt : (O.getD (0, 0)).1 < 4294967296 := by
      cases hOO : O with
      | none => simp
      | some v =>
        obtain ⟨v1, v2⟩ := v
        rw [hOO] at hO
        exact (net_is _ _ _ hO).1
    obtain ⟨na, hna⟩ : ∃ d, (O.getD (0, 0)).1 = d := ⟨_, rfl⟩
    obtain ⟨nb, hnb⟩ : ∃ d, (O.getD (0, 0)).2 = d := ⟨_, rfl⟩
    obtain ⟨is, his⟩ : ∃ d, O.isSome = d := ⟨_, rfl⟩
    rw [hna, hnb, his] at HN
    rw [hna] at hlt
    have HD := Lib.hid (And.intro (And.intro hna hnb) (And.intro his hlt))
    clear h hw hT hp hq c4 z0 hO hna hnb his hlt
    go_enter Tryd.func49, Tryd.ntmps49
    go_upto_region 5 with (first | (go_at_call 61; refine HL.out.mono ?_; rintro e u1 ⟨rfl, rfl⟩) | (go_at_call 62; refine (HN.out _).mono ?_; rintro e u2 ⟨rfl, hb2⟩; have HS2 := Lib.hid (HS.out.on hb2); have HC2 := Lib.hid (Ch.of (B := B) (r := r) hb2); clear hb2))
    obtain ⟨bx, hbx⟩ : ∃ bx, u2.heap.size = bx := ⟨_, rfl⟩
    obtain ⟨V, hV⟩ : ∃ V, u2.alloc (.cells #[.int .u32 (na : Int), .int .i64 (nb : Int)] 53) = V := ⟨_, rfl⟩
    have HBX := Lib.hid (show Bk V bx 53 #[.int .u32 (na : Int), .int .i64 (nb : Int)] from by rw [← hV, ← hbx]; exact Bk.new _ _ _)
    have HSV := Lib.hid (show Sc V B r E ⟨a0, a1, a2, a3, T ++ [y], some ⟨g, 0, none⟩, c⟩ from by rw [← hV]; exact HS2.out.on ((Below.refl _ _).alloc (Nat.le_refl _) _))
    have HCV := Lib.hid (show Ch B r u V from by rw [← hV]; exact HC2.out.trans (Ch.alloc _ _))
    have HNB := Lib.hid (show ∀ n', (Value.slice y.An n' y.cn).ownBlock ≠ some bx from fun n' e => by
      have := ((HS2.out.old T y rfl).2.n.block n' bx e).2.1
      omega)
    rw [hV]
    try rw [hbx]
    clear hV hbx HS2 HC2
    have HSD := Lib.hid (show Sc V.drew B r E ⟨a0, a1, a2, a3, T ++ [y], some ⟨g, 0, none⟩, c⟩ from HSV.out.drewN 1)
    have HSA := Lib.hid (show Sc (V.drew.alloc (.cells #[.int .u32 (na : Int), .int .i64 (nb : Int)] 53)) B r E ⟨a0, a1, a2, a3, T ++ [y], some ⟨g, 0, none⟩, c⟩ from HSD.out.on ((Below.refl _ _).alloc (Nat.le_refl _) _))
    have HBK := Lib.hid (Bk.new V.drew 53 #[.int .u32 (na : Int), .int .i64 (nb : Int)])
    have HLS := Lib.hid (HSA.out.old T y rfl).2.n
    obtain ⟨j3, _, _, _⟩ := HSD.out.lastCells
    obtain ⟨j3a, _, _, _⟩ := HSA.out.lastCells
    rw [HT.out, HPQ.out.1] at j3 j3a
    have j3b : (V.alloc (.cells #[.int .u32 (na : Int), .int .i64 (nb : Int)] 53)).cell? ⟨g, n * 5 + 3, none⟩ = some (.slice y.An p y.cn) := j3a
    have s0 : V.drew.cell? ⟨bx, 0, none⟩ = some (.int .u32 (na : Int)) ∧ V.drew.cell? ⟨bx, 1, none⟩ = some (.int .i64 (nb : Int)) := ⟨(HBX.out.drew).cell 0, (HBX.out.drew).cell 1⟩
    have s0a : (V.drew.alloc (.cells #[.int .u32 (na : Int), .int .i64 (nb : Int)] 53)).cell? ⟨bx, 0, none⟩ = some (.int .u32 (na : Int)) ∧ (V.drew.alloc (.cells #[.int .u32 (na : Int), .int .i64 (nb : Int)] 53)).cell? ⟨bx, 1, none⟩ = some (.int .i64 (nb : Int)) := ⟨((HBX.out.drew).alloc _).cell 0, ((HBX.out.drew).alloc _).cell 1⟩
    have HS0 := Lib.hid (And.intro s0 s0a)
    have HBXA := Lib.hid ((HBX.out.drew).alloc (.cells #[.int .u32 (na : Int), .int .i64 (nb : Int)] 53))
    clear s0 s0a k3 k4 w0
    try simp only [List.cons_append, List.nil_append]
    refine wp_region_held_drew (S := fun wz => wz.cell? ⟨bx, 0, none⟩ = some (.int .u32 (na : Int)) ∧ wz.cell? ⟨bx, 1, none⟩ = some (.int .i64 (nb : Int))) (by kernel_rfl) (HS0.out.1) (fun hHeld => ?_)
    refine take_at (some 27) (i := 0) (v := ?_) rfl rfl (by kernel_rfl) (by kernel_rfl) (by kernel_rfl) (fun _ _ _ h => h) (Or.inl ⟨by kernel_rfl, ?_⟩) hHeld ?_
    rotate_left
    · intro wz hSw; have hw0 := hSw.1; have hw1 := hSw.2; go_simp; try (with_reducible rfl)
    try simp only [Act.put, List.setIfInBounds_toArray, List.set_cons_zero, List.set_cons_succ, List.getElem_toArray, List.getElem_cons_succ, List.getElem_cons_zero]
    refine take_at (some 28) (i := 1) (v := ?_) rfl rfl (by kernel_rfl) (by kernel_rfl) (by kernel_rfl) (fun _ _ _ h => h) (Or.inl ⟨by kernel_rfl, ?_⟩) hHeld ?_
    rotate_left
    · intro wz hSw; have hw0 := hSw.1; have hw1 := hSw.2; go_simp; try (with_reducible rfl)
    try simp only [Act.put, List.setIfInBounds_toArray, List.set_cons_zero, List.set_cons_succ, List.getElem_toArray, List.getElem_cons_succ, List.getElem_cons_zero]
    refine take_at (some 29) (i := 2) (v := ?_) rfl rfl (by kernel_rfl) (by kernel_rfl) (by kernel_rfl) (fun _ _ _ h => h) (Or.inl ⟨by kernel_rfl, ?_⟩) hHeld ?_
    rotate_left
    · intro wz hSw; have hw0 := hSw.1; have hw1 := hSw.2; go_simp; try (with_reducible rfl)
    try simp only [Act.put, List.setIfInBounds_toArray, List.set_cons_zero, List.set_cons_succ, List.getElem_toArray, List.getElem_cons_succ, List.getElem_cons_zero]
    refine take_at (some 30) (i := 3) (v := ?_) rfl rfl (by kernel_rfl) (by kernel_rfl) (by kernel_rfl) (fun _ _ _ h => h) (Or.inl ⟨by kernel_rfl, ?_⟩) hHeld ?_
    rotate_left
    · intro wz hSw; have hw0 := hSw.1; have hw1 := hSw.2; go_simp; try (with_reducible rfl)
    try simp only [Act.put, List.setIfInBounds_toArray, List.set_cons_zero, List.set_cons_succ, List.getElem_toArray, List.getElem_cons_succ, List.getElem_cons_zero]
    refine take_at (some 32) (i := 5) (v := ?_) rfl rfl (by kernel_rfl) (by kernel_rfl) (by kernel_rfl) (fun _ _ _ h => h) (Or.inl ⟨by kernel_rfl, ?_⟩) hHeld ?_
    rotate_left
    · intro wz hSw; have hw0 := hSw.1; have hw1 := hSw.2; go_simp; try (with_reducible rfl)
    try simp only [Act.put, List.setIfInBounds_toArray, List.set_cons_zero, List.set_cons_succ, List.getElem_toArray, List.getElem_cons_succ, List.getElem_cons_zero]
    refine wpAnyH_ready (rs := [4, 6]) (by kernel_rfl) (by simp) (AllReadyH.cons rfl (fun K hK => ?_) (AllReadyH.cons rfl (fun K hK => ?_) AllReadyH.nil))
    · rw [if_pos (by kernel_rfl)]
      go_simp
      refine hK.out _ _ HS0.out.1 (fun hHeld => ?_)
      try simp only [Act.put, List.setIfInBounds_toArray, List.set_cons_zero, List.set_cons_succ, List.getElem_toArray, List.getElem_cons_succ, List.getElem_cons_zero]
      refine wpAnyH_ready (rs := [6]) (by kernel_rfl) (by simp) (AllReadyH.cons rfl (fun K hK => ?_) AllReadyH.nil)
      rw [if_pos (by kernel_rfl)]
      go_simp
      refine hK.out _ _ HS0.out.2 (fun hHeld => ?_)
      try simp only [Act.put, List.setIfInBounds_toArray, List.set_cons_zero, List.set_cons_succ, List.getElem_toArray, List.getElem_cons_succ, List.getElem_cons_zero]
      refine wpAnyH_ready (rs := [7]) (by kernel_rfl) (by simp) (AllReadyH.cons rfl (fun K hK => ?_) AllReadyH.nil)
      rw [if_pos (by kernel_rfl)]
      refine op_rows roN (.tmp 31) (.tmp 33) rfl p rfl HPQ.out.1 HLS.out [⟨na, nb⟩] _ 1 _ rfl rfl (fun h => by cases h) (Rw.bk HBK.out) (by omega) HSA.out.ES (p + 1) rfl ?_
      intro A4 c4' w4 ho4 hg4 hb4
      have hbx4 : Bk w4 bx 53 #[.int .u32 (na : Int), .int .i64 (nb : Int)] := (hg4.block bx HBXA.out.lt (fun e => HNB.out p e.symm)).trans HBXA.out
      have hlen : (y.t.nets ++ [(⟨na, nb⟩ : Nt)]).length = p + 1 := by rw [List.length_append, HPQ.out.1]; rfl
      have HTT := Lib.hid (HSA.out.setN hg4 ho4 (fun z hz => by rcases List.mem_append.1 hz with hz | hz; exact (HSA.out.sm y (List.mem_append.2 (.inr (List.mem_singleton.2 rfl)))).lt z hz; rw [List.mem_singleton.1 hz]; exact HD.out.2.2))
      rw [HT.out, hlen] at HTT
      have HCT := Lib.hid (show Ch B r u (w4.setCell ⟨g, n * 5 + 3, none⟩ (.slice A4 (p + 1) c4')) from (((HCV.out.drewN 1).trans (Ch.alloc _ _)).trans (Ch.grown hg4 HLS.out HSA.out.BE)).trans (Ch.set _ (p := ⟨g, n * 5 + 3, none⟩) (.inr (HSA.out.row.block 0 g rfl).1) _))
      obtain ⟨_, _, gcs, hgb⟩ := HSA.out.row.block 0 g rfl
      have hgb4 := grown_ty hg4 HLS.out hgb (.inl (by decide))
      have f4 := hgb4.frozen (n * 5 + 3)
      have q4 : w4.cell? ⟨g, n * 5 + 3, none⟩ = some (.slice y.An p y.cn) := hg4.cell j3a (fun e => by obtain ⟨_, _, cs2, k2⟩ := HLS.out.block p g e.symm; exact hgb.ty k2 (by decide) rfl)
      have HNE := Lib.hid (show bx ≠ g from hbx4.ty hgb4 (by decide))
      have s4 := And.intro (hbx4.cell 0) (hbx4.cell 1)
      clear ho4 hg4 hb4 hgb hgb4 hlen
      refine hK.out _ _ s4 (fun hHeld => ?_)
      try simp only [Act.put, List.setIfInBounds_toArray, List.set_cons_zero, List.set_cons_succ, List.getElem_toArray, List.getElem_cons_succ, List.getElem_cons_zero]
      refine take_at (some 35) (i := 8) (v := ?_) rfl rfl (by kernel_rfl) (by kernel_rfl) (by kernel_rfl) (fun _ _ _ h => h) (Or.inl ⟨by kernel_rfl, ?_⟩) hHeld ?_
      rotate_left
      · intro wz hSw; go_simp; try (with_reducible rfl)
      try simp only [Act.put, List.setIfInBounds_toArray, List.set_cons_zero, List.set_cons_succ, List.getElem_toArray, List.getElem_cons_succ, List.getElem_cons_zero]
      refine take_at (some 36) (i := 9) (v := ?_) rfl rfl (by kernel_rfl) (by kernel_rfl) (by kernel_rfl) (fun _ _ _ h => h) (Or.inl ⟨by kernel_rfl, ?_⟩) hHeld ?_
      rotate_left
      · intro wz hSw; go_simp; try (with_reducible rfl)
      try simp only [Act.put, List.setIfInBounds_toArray, List.set_cons_zero, List.set_cons_succ, List.getElem_toArray, List.getElem_cons_succ, List.getElem_cons_zero]
      refine wpAnyH_ready (rs := [10]) (by kernel_rfl) (by simp) (AllReadyH.cons rfl (fun K hK => ?_) AllReadyH.nil)
      rw [if_pos (by kernel_rfl)]
      go_simp
      refine hK.out _ _ (show (w4.setCell ⟨g, n * 5 + 3, none⟩ (.slice A4 (p + 1) c4')).cell? ⟨bx, 0, none⟩ = some (.int .u32 (na : Int)) ∧ (w4.setCell ⟨g, n * 5 + 3, none⟩ (.slice A4 (p + 1) c4')).cell? ⟨bx, 1, none⟩ = some (.int .i64 (nb : Int)) from ⟨(hbx4.far (p := ⟨g, n * 5 + 3, none⟩) HNE.out _).cell 0, (hbx4.far (p := ⟨g, n * 5 + 3, none⟩) HNE.out _).cell 1⟩) (fun hHeld => ?_)
      try simp only [Act.put, List.setIfInBounds_toArray, List.set_cons_zero, List.set_cons_succ, List.getElem_toArray, List.getElem_cons_succ, List.getElem_cons_zero]
      refine wpAnyH_done (by kernel_rfl) ?_ _
      clear hHeld s4 hbx4
      go_wp2_with fail
      go_ret
      refine ⟨⟨is, rfl, fun hi => ⟨E, _, HTT.out, ?_⟩, fun hi => ?_⟩, HCT.out⟩
      · have hO : netO (bs l0) = some (na, nb) := by
          rw [HO.out]
          obtain ⟨⟨e1, e2⟩, e3, _⟩ := HD.out
          cases O with
          | none => rw [← e3] at hi; cases hi
          | some v => obtain ⟨v1, v2⟩ := v; simp at e1 e2; rw [e1, e2]
        have htk : y.t.toks = [] := List.eq_nil_of_length_eq_zero HPQ.out.2
        simp only [readNet, HLC.out, htk, if_pos, hO]
        rw [set_cg]
      · have hO : netO (bs l0) = none := by
          rw [HO.out]
          obtain ⟨_, e3, _⟩ := HD.out
          rw [hi] at e3
          exact Option.not_isSome_iff_eq_none.1 (by rw [e3]; simp)
        have htk : y.t.toks = [] := List.eq_nil_of_length_eq_zero HPQ.out.2
        simp only [readNet, HLC.out, htk, if_pos, hO, okC]
    · rw [if_pos (by kernel_rfl)]
      go_simp
      refine hK.out _ _ HS0.out.2 (fun hHeld => ?_)
      try simp only [Act.put, List.setIfInBounds_toArray, List.set_cons_zero, List.set_cons_succ, List.getElem_toArray, List.getElem_cons_succ, List.getElem_cons_zero]
      refine wpAnyH_ready (rs := [4]) (by kernel_rfl) (by simp) (AllReadyH.cons rfl (fun K hK => ?_) AllReadyH.nil)
      rw [if_pos (by kernel_rfl)]
      go_simp
      refine hK.out _ _ HS0.out.2 (fun hHeld => ?_)
      try simp only [Act.put, List.setIfInBounds_toArray, List.set_cons_zero, List.set_cons_succ, List.getElem_toArray, List.getElem_cons_succ, List.getElem_cons_zero]
      refine wpAnyH_ready (rs := [7]) (by kernel_rfl) (by simp) (AllReadyH.cons rfl (fun K hK => ?_) AllReadyH.nil)
      rw [if_pos (by kernel_rfl)]
      refine op_rows roN (.tmp 31) (.tmp 33) rfl p rfl HPQ.out.1 HLS.out [⟨na, nb⟩] _ 1 _ rfl rfl (fun h => by cases h) (Rw.bk HBK.out) (by omega) HSA.out.ES (p + 1) rfl ?_
      intro A4 c4' w4 ho4 hg4 hb4
      have hbx4 : Bk w4 bx 53 #[.int .u32 (na : Int), .int .i64 (nb : Int)] := (hg4.block bx HBXA.out.lt (fun e => HNB.out p e.symm)).trans HBXA.out
      have hlen : (y.t.nets ++ [(⟨na, nb⟩ : Nt)]).length = p + 1 := by rw [List.length_append, HPQ.out.1]; rfl
      have HTT := Lib.hid (HSA.out.setN hg4 ho4 (fun z hz => by rcases List.mem_append.1 hz with hz | hz; exact (HSA.out.sm y (List.mem_append.2 (.inr (List.mem_singleton.2 rfl)))).lt z hz; rw [List.mem_singleton.1 hz]; exact HD.out.2.2))
      rw [HT.out, hlen] at HTT
      have HCT := Lib.hid (show Ch B r u (w4.setCell ⟨g, n * 5 + 3, none⟩ (.slice A4 (p + 1) c4')) from (((HCV.out.drewN 1).trans (Ch.alloc _ _)).trans (Ch.grown hg4 HLS.out HSA.out.BE)).trans (Ch.set _ (p := ⟨g, n * 5 + 3, none⟩) (.inr (HSA.out.row.block 0 g rfl).1) _))
      obtain ⟨_, _, gcs, hgb⟩ := HSA.out.row.block 0 g rfl
      have hgb4 := grown_ty hg4 HLS.out hgb (.inl (by decide))
      have f4 := hgb4.frozen (n * 5 + 3)
      have q4 : w4.cell? ⟨g, n * 5 + 3, none⟩ = some (.slice y.An p y.cn) := hg4.cell j3a (fun e => by obtain ⟨_, _, cs2, k2⟩ := HLS.out.block p g e.symm; exact hgb.ty k2 (by decide) rfl)
      have HNE := Lib.hid (show bx ≠ g from hbx4.ty hgb4 (by decide))
      have s4 := And.intro (hbx4.cell 0) (hbx4.cell 1)
      clear ho4 hg4 hb4 hgb hgb4 hlen
      refine hK.out _ _ s4 (fun hHeld => ?_)
      try simp only [Act.put, List.setIfInBounds_toArray, List.set_cons_zero, List.set_cons_succ, List.getElem_toArray, List.getElem_cons_succ, List.getElem_cons_zero]
      refine take_at (some 35) (i := 8) (v := ?_) rfl rfl (by kernel_rfl) (by kernel_rfl) (by kernel_rfl) (fun _ _ _ h => h) (Or.inl ⟨by kernel_rfl, ?_⟩) hHeld ?_
      rotate_left
      · intro wz hSw; go_simp; try (with_reducible rfl)
      try simp only [Act.put, List.setIfInBounds_toArray, List.set_cons_zero, List.set_cons_succ, List.getElem_toArray, List.getElem_cons_succ, List.getElem_cons_zero]
      refine take_at (some 36) (i := 9) (v := ?_) rfl rfl (by kernel_rfl) (by kernel_rfl) (by kernel_rfl) (fun _ _ _ h => h) (Or.inl ⟨by kernel_rfl, ?_⟩) hHeld ?_
      rotate_left
      · intro wz hSw; go_simp; try (with_reducible rfl)
      try simp only [Act.put, List.setIfInBounds_toArray, List.set_cons_zero, List.set_cons_succ, List.getElem_toArray, List.getElem_cons_succ, List.getElem_cons_zero]
      refine wpAnyH_ready (rs := [10]) (by kernel_rfl) (by simp) (AllReadyH.cons rfl (fun K hK => ?_) AllReadyH.nil)
      rw [if_pos (by kernel_rfl)]
      go_simp
      refine hK.out _ _ (show (w4.setCell ⟨g, n * 5 + 3, none⟩ (.slice A4 (p + 1) c4')).cell? ⟨bx, 0, none⟩ = some (.int .u32 (na : Int)) ∧ (w4.setCell ⟨g, n * 5 + 3, none⟩ (.slice A4 (p + 1) c4')).cell? ⟨bx, 1, none⟩ = some (.int .i64 (nb : Int)) from ⟨(hbx4.far (p := ⟨g, n * 5 + 3, none⟩) HNE.out _).cell 0, (hbx4.far (p := ⟨g, n * 5 + 3, none⟩) HNE.out _).cell 1⟩) (fun hHeld => ?_)
      try simp only [Act.put, List.setIfInBounds_toArray, List.set_cons_zero, List.set_cons_succ, List.getElem_toArray, List.getElem_cons_succ, List.getElem_cons_zero]
      refine wpAnyH_done (by kernel_rfl) ?_ _
      clear hHeld s4 hbx4
      go_wp2_with fail
      go_ret
      refine ⟨⟨is, rfl, fun hi => ⟨E, _, HTT.out, ?_⟩, fun hi => ?_⟩, HCT.out⟩
      · have hO : netO (bs l0) = some (na, nb) := by
          rw [HO.out]
          obtain ⟨⟨e1, e2⟩, e3, _⟩ := HD.out
          cases O with
          | none => rw [← e3] at hi; cases hi
          | some v => obtain ⟨v1, v2⟩ := v; simp at e1 e2; rw [e1, e2]
        have htk : y.t.toks = [] := List.eq_nil_of_length_eq_zero HPQ.out.2
        simp only [readNet, HLC.out, htk, if_pos, hO]
        rw [set_cg]
      · have hO : netO (bs l0) = none := by
          rw [HO.out]
          obtain ⟨_, e3, _⟩ := HD.out
          rw [hi] at e3
          exact Option.not_isSome_iff_eq_none.1 (by rw [e3]; simp)
        have htk : y.t.toks = [] := List.eq_nil_of_length_eq_zero HPQ.out.2
        simp only [readNet, HLC.out, htk, if_pos, hO, okC]
  · have hq1 : (q : Int) > 0 := by omega
    have HN := Lib.hid (show okC (readNet (Cv.cg ⟨a0, a1, a2, a3, T ++ [y], some ⟨g, 0, none⟩, c⟩) [l0]) = none by
      have htk : y.t.toks ≠ [] := fun e => hq0 (by rw [← hq, e]; rfl)
      simp only [readNet, HLC.out, if_neg htk, okC])
    clear h hw hT hp hq c4 z0 k3
    go_enter Tryd.func49, Tryd.ntmps49
    go_wp2_with (go_at_call 61; refine HL.out.mono ?_; rintro e u1 ⟨rfl, rfl⟩)
    go_ret
    exact ⟨⟨false, rfl, (fun hh => by cases hh), fun _ => HN.out⟩, Ch.refl _ _ _⟩
end Go.Proofs.YtfpjkedcpnmfeaaDoor

/- (*reading).token: its contract. (Written by gen_cgp4.py.) -/
namespace Go.Proofs.YtfpjkedcpnmfeaaDoor
set_option linter.unusedVariables false
set_option linter.unusedSimpArgs false
open Go.RowKit

theorem unhex_w (l1 : List UInt8) (w : World) (hz : l1.length ≤ 1099511627776) : Calls Tryd.prog 63 #[.string (bs l1)] w fun e w' => ∃ A m cm, e = .returned (.tuple #[.slice A m cm, .bool (unhexB l1).isSome]) ∧ ((unhexB l1).getD []).length = m ∧ Rb w' w'.heap.size A ((unhexB l1).getD []) ∧ (∀ b o, A = some ⟨b, o, none⟩ → w.heap.size ≤ b) ∧ Below w.heap.size w w' := by
  refine (unhex_ok (bs l1) w (by rw [bs_size]; exact hz)).mono ?_
  rintro e w' (⟨l, g, h1, rfl, h2, h3, h4⟩ | ⟨h1, rfl, h4⟩)
  · rw [bs_data] at h1
    rw [h1]
    exact ⟨_, _, _, rfl, rfl, h2, (fun b o e => by injection e with e; injection e with e1 _ _; omega), h4⟩
  · rw [bs_data] at h1
    rw [h1]
    exact ⟨_, _, _, rfl, rfl, .inl rfl, (fun b o e => by cases e), h4⟩
theorem par_w (l : List UInt8) (w : World) (hz : l.length ≤ 140737488355328) : Calls Tryd.prog 59 #[.string (bs l)] w fun e w' => e = .returned (.tuple #[.int .i64 (((decO l).getD 0 : Nat) : Int), .bool (decO l).isSome]) ∧ Below w.heap.size w w' := by
  refine (parse_ok (bs l) w (by rw [bs_size]; exact hz)).mono ?_
  rintro e w' ⟨rfl, hb⟩
  refine ⟨?_, hb⟩
  cases hd : decO l with
  | none => rw [decO_none hd]; rfl
  | some m => rw [decO_some hd]; rfl
theorem Rb.gr {w w' : World} {M : Nat} {A : Option Addr} {l : List UInt8} {row : Option Nat} (h : Rb w M A l) (hg : w.grownBy w' row) (hM : M ≤ w.heap.size) (hn : ∀ b o, A = some ⟨b, o, none⟩ → row ≠ some b) : Rb w' M A l := by
  rcases h with h | ⟨b, o, e, hb, hc⟩
  · exact .inl h
  · exact .inr ⟨b, o, e, hb, fun i hi => hg.cell (hc i hi) (fun e2 => hn b o e e2.symm)⟩
theorem Rb.farB {w : World} {M : Nat} {A : Option Addr} {l : List UInt8} (h : Rb w M A l) (p : Addr) (v : Value) (hn : ∀ b o, A = some ⟨b, o, none⟩ → b ≠ p.block) : Rb (w.setCell p v) M A l := by
  rcases h with h | ⟨b, o, e, hb, hc⟩
  · exact .inl h
  · exact .inr ⟨b, o, e, hb, fun i hi => (World.cell?_of_block (w := w) (a := ⟨b, o + i, none⟩) (Below.heap_setCell _ _ _ _ (hn b o e))).trans (hc i hi)⟩

theorem some_ofL {v : Option (List UInt8)} {d : List UInt8} (h : v.getD [] = d) (hs : v.isSome = true) : v = some d := by cases v <;> simp_all
theorem tok_none {c : Cg} {l0 l1 l2 : List UInt8} (h : unhexB l1 = none ∨ decO l2 = none) : okC (readToken c [l0, l1, l2]) = none := by
  have : readToken c [l0, l1, l2] = none := by
    simp only [readToken]
    cases lastC c with
    | none => rfl
    | some t =>
      rcases h with h | h
      · rw [h]
      · rw [h]; cases unhexB l1 <;> rfl
  rw [this]; rfl
set_option maxRecDepth 100000 in
set_option maxHeartbeats 8000000 in
theorem tokl_none (u : World) (B r E : Nat) (x : Cv) (V : Value) (w0 w1 w2 : List UInt8) (h : Sc u B r E x) (hx : x.ts = []) :
    Calls Tryd.prog 50 #[.pointer (some ⟨r, 0, none⟩), V] u (Rv u B r (readToken x.cg [w0, w1, w2])) := by
  have c4 : u.cell? ⟨r, 4, none⟩ = some (.slice x.A 0 x.c) := (h.blk.cell 4).trans (by rw [show (0 : Nat) = x.ts.length by rw [hx]; rfl]; rfl)
  have HL := Lib.hid (last_none r x.A x.c u c4)
  have HN := Lib.hid (show okC (readToken x.cg [w0, w1, w2]) = none by simp [readToken, lastC, Cv.cg, hx, okC])
  clear c4 h hx
  go_enter Tryd.func50, Tryd.ntmps50
  go_wp2_with (go_at_call 61; refine HL.out.mono ?_; rintro e u1 ⟨rfl, rfl⟩)
  go_ret
  exact ⟨⟨false, rfl, (fun hh => by cases hh), fun _ => HN.out⟩, Ch.refl _ _ _⟩

set_option maxRecDepth 100000 in
set_option maxHeartbeats 8000000 in
theorem tokl_some (u : World) (B r E g n : Nat) (a0 a1 a2 a3 : Int) (T : List Tv) (y : Tv) (c b o cw : Nat) (l0 l1 l2 : List UInt8) (h : Sc u B r E ⟨a0, a1, a2, a3, T ++ [y], some ⟨g, 0, none⟩, c⟩) (hT : T.length = n) (hn8 : n ≤ 8) (hy : y.t.toks.length ≤ 4) (hw : Wd u B b o [bs l0, bs l1, bs l2]) (z0 : l0.length ≤ 140737488355328) (z1 : l1.length ≤ 1099511627776) (z2 : l2.length ≤ 140737488355328) :
    Calls Tryd.prog 50 #[.pointer (some ⟨r, 0, none⟩), .slice (some ⟨b, o, none⟩) 3 cw] u (Rv u B r (readToken (Cv.cg ⟨a0, a1, a2, a3, T ++ [y], some ⟨g, 0, none⟩, c⟩) [l0, l1, l2])) := by
  have c4 : u.cell? ⟨r, 4, none⟩ = some (.slice (some ⟨g, 0, none⟩) (n + 1) c) := (h.blk.cell 4).trans (by rw [← hT]; simp)
  have HL := Lib.hid (last_some r g n c u (by omega) c4)
  have HLC := Lib.hid (last_cg (a0 := a0) (a1 := a1) (a2 := a2) (a3 := a3) (T := T) (y := y) (A := some ⟨g, 0, none⟩) (c := c))
  have HT := Lib.hid hT
  obtain ⟨q, hq⟩ : ∃ q, y.t.toks.length = q := ⟨_, rfl⟩
  rw [hq] at hy
  have HQ := Lib.hid hq
  have HS := Lib.hid h
  have HW := Lib.hid hw
  have w1 : u.cell? ⟨b, o + 1, none⟩ = some (.string (bs l1)) := hw.at_ 1 (by simp)
  have HU := Lib.hid (fun w => unhex_w l1 w z1)
  have HP := Lib.hid (fun w => par_w l2 w z2)
  have hsl : ((unhexB l1).getD []).length ≤ 1099511627776 := by
    cases hh : unhexB l1 with
    | none => simp
    | some l =>
      have := congrArg List.length (hexB_unhexB _ _ hh)
      rw [hexB_len] at this
      simp only [Option.getD_some]; omega
  obtain ⟨v1, hv1⟩ : ∃ v, unhexB l1 = v := ⟨_, rfl⟩
  obtain ⟨v2, hv2⟩ : ∃ v, decO l2 = v := ⟨_, rfl⟩
  rw [hv1] at HU hsl
  rw [hv2] at HP
  have HO := Lib.hid (And.intro hv1 hv2)
  obtain ⟨sl, hd1⟩ : ∃ d, v1.getD [] = d := ⟨_, rfl⟩
  obtain ⟨s1, hs1⟩ : ∃ d, v1.isSome = d := ⟨_, rfl⟩
  obtain ⟨nv, hd2⟩ : ∃ d, v2.getD 0 = d := ⟨_, rfl⟩
  obtain ⟨s2, hs2⟩ : ∃ d, v2.isSome = d := ⟨_, rfl⟩
  rw [hd1, hs1] at HU
  rw [hd1] at hsl
  rw [hd2, hs2] at HP
  have HD := Lib.hid (And.intro (And.intro hd1 hs1) (And.intro hd2 hs2))
  have HZ := Lib.hid (show (bs l0).size ≤ 140737488355328 ∧ (bs sl).size ≤ 140737488355328 from ⟨by rw [bs_size]; exact z0, by rw [bs_size]; omega⟩)
  clear h hw hT hq c4 z0 z1 z2 hv1 hv2 hd1 hs1 hd2 hs2 hsl
  go_enter Tryd.func50, Tryd.ntmps50
  go_upto_region 6 with (first | (go_at_call 61; refine HL.out.mono ?_; rintro e u1 ⟨rfl, rfl⟩) | (go_at_call 63; refine (HU.out _).mono ?_; rintro e u2 ⟨A6, m6, c6, rfl, hm6, hr6, hf6, hb2⟩; have HS2 := Lib.hid (HS.out.on hb2); have HW2 := Lib.hid (HW.out.on hb2); have HC2 := Lib.hid (Ch.of (B := B) (r := r) hb2); have H6 := Lib.hid (And.intro hm6 (And.intro hr6 hf6)); have HSZ := Lib.hid hb2.size; clear hm6 hr6 hf6 hb2; have w2 : u2.cell? ⟨b, o + 2, none⟩ = some (.string (bs l2)) := HW2.out.at_ 2 (by simp)) | (go_at_call 59; refine (HP.out _).mono ?_; rintro e u3 ⟨rfl, hb3⟩; have HS3 := Lib.hid (HS2.out.on hb3); have HW3 := Lib.hid (HW2.out.on hb3); have HC3 := Lib.hid (HC2.out.trans (Ch.of hb3)); have HR3 := Lib.hid (show Rb u3 u2.heap.size A6 sl ∧ u2.heap.size ≤ u3.heap.size from ⟨H6.out.2.1.below hb3 (Nat.le_refl _), hb3.size⟩); clear hb3))
  have w0 : u3.drew.cell? ⟨b, o, none⟩ = some (.string (bs l0)) := (HW3.out.drewN 1).at_ 0 (by simp)
  have HSD := Lib.hid (show Sc u3.drew B r E ⟨a0, a1, a2, a3, T ++ [y], some ⟨g, 0, none⟩, c⟩ from HS3.out.drewN 1)
  have HCD := Lib.hid (show Ch B r u u3.drew from HC3.out.drewN 1)
  have HSA := Lib.hid (show Sc (u3.drew.alloc (.cells #[.string (bs l0), .string (bs sl), .int .i64 (nv : Int)] 44)) B r E ⟨a0, a1, a2, a3, T ++ [y], some ⟨g, 0, none⟩, c⟩ from HSD.out.on ((Below.refl _ _).alloc (Nat.le_refl _) _))
  have HBK := Lib.hid (Bk.new u3.drew 44 #[.string (bs l0), .string (bs sl), .int .i64 (nv : Int)])
  have HLS := Lib.hid (HSA.out.old T y rfl).2.k
  obtain ⟨_, j4, _, _⟩ := HSD.out.lastCells
  obtain ⟨_, j4a, _, _⟩ := HSA.out.lastCells
  rw [HT.out, HQ.out] at j4 j4a
  have j4b : (u3.alloc (.cells #[.string (bs l0), .string (bs sl), .int .i64 (nv : Int)] 44)).cell? ⟨g, n * 5 + 4, none⟩ = some (.slice y.Ak q y.ck) := j4a
  have hbl : b < u3.drew.heap.size := HW3.out.lt
  have w0a : (u3.drew.alloc (.cells #[.string (bs l0), .string (bs sl), .int .i64 (nv : Int)] 44)).cell? ⟨b, o, none⟩ = some (.string (bs l0)) := (((Below.refl u3.drew.heap.size u3.drew).alloc (Nat.le_refl _) _).cell (p := ⟨b, o, none⟩) hbl).trans w0
  have HWA := Lib.hid (show ∃ cs, Bk (u3.drew.alloc (.cells #[.string (bs l0), .string (bs sl), .int .i64 (nv : Int)] 44)) b 9 cs from by obtain ⟨cs, k⟩ := HW3.out.bk; exact ⟨cs, k.drew.alloc _⟩)
  have HNS := Lib.hid (show (∀ b' o', A6 = some ⟨b', o', none⟩ → b' ≠ g) ∧ (∀ b' o' n', A6 = some ⟨b', o', none⟩ → (Value.slice y.Ak n' y.ck).ownBlock ≠ some b') from by
    obtain ⟨_, hg1, _⟩ := HS.out.row.block 0 g rfl
    refine ⟨fun b' o' e => ?_, fun b' o' n' e e2 => ?_⟩
    · have := H6.out.2.2 b' o' e; omega
    · have h1 := H6.out.2.2 b' o' e
      have h2 := ((HS.out.old T y rfl).2.k.block n' b' e2).2.1
      omega)
  have HS0 := Lib.hid (show (u3.drew.cell? ⟨b, o, none⟩ = some (.string (bs l0)) ∧ Rb u3.drew u2.heap.size A6 sl) ∧ ((u3.drew.alloc (.cells #[.string (bs l0), .string (bs sl), .int .i64 (nv : Int)] 44)).cell? ⟨b, o, none⟩ = some (.string (bs l0)) ∧ Rb (u3.drew.alloc (.cells #[.string (bs l0), .string (bs sl), .int .i64 (nv : Int)] 44)) u2.heap.size A6 sl) from
    ⟨⟨w0, HR3.out.1⟩, ⟨w0a, Rb.below (B' := u3.drew.heap.size) (show Rb u3.drew u2.heap.size A6 sl from HR3.out.1) ((Below.refl _ _).alloc (Nat.le_refl _) _) HR3.out.2⟩⟩)
  have HM6 := Lib.hid H6.out.1
  clear w0 w0a w1 w2 HC2 HC3 HS2 HS3
  try simp only [List.cons_append, List.nil_append]
  refine wp_region_held_drew (S := fun wz => wz.cell? ⟨b, o, none⟩ = some (.string (bs l0)) ∧ Rb wz u2.heap.size A6 sl) (by kernel_rfl) (HS0.out.1) (fun hHeld => ?_)
  refine take_at (some 28) (i := 0) (v := ?_) rfl rfl (by kernel_rfl) (by kernel_rfl) (by kernel_rfl) (fun _ _ _ h => h) (Or.inl ⟨by kernel_rfl, ?_⟩) hHeld ?_
  rotate_left
  · intro wz hSw; have hw0 := hSw.1; go_simp; try (with_reducible rfl)
  try simp only [Act.put, List.setIfInBounds_toArray, List.set_cons_zero, List.set_cons_succ, List.getElem_toArray, List.getElem_cons_succ, List.getElem_cons_zero]
  refine take_at (some 29) (i := 1) (v := ?_) rfl rfl (by kernel_rfl) (by kernel_rfl) (by kernel_rfl) (fun _ _ _ h => h) (Or.inl ⟨by kernel_rfl, ?_⟩) hHeld ?_
  rotate_left
  · intro wz hSw; have hw0 := hSw.1; go_simp; try (with_reducible rfl)
  try simp only [Act.put, List.setIfInBounds_toArray, List.set_cons_zero, List.set_cons_succ, List.getElem_toArray, List.getElem_cons_succ, List.getElem_cons_zero]
  refine take_at (some 30) (i := 2) (v := ?_) rfl rfl (by kernel_rfl) (by kernel_rfl) (by kernel_rfl) (fun _ _ _ h => h) (Or.inl ⟨by kernel_rfl, ?_⟩) hHeld ?_
  rotate_left
  · intro wz hSw; have hw0 := hSw.1; go_simp; try (with_reducible rfl)
  try simp only [Act.put, List.setIfInBounds_toArray, List.set_cons_zero, List.set_cons_succ, List.getElem_toArray, List.getElem_cons_succ, List.getElem_cons_zero]
  refine take_at (some 31) (i := 3) (v := ?_) rfl rfl (by kernel_rfl) (by kernel_rfl) (by kernel_rfl) (fun _ _ _ h => h) (Or.inl ⟨by kernel_rfl, ?_⟩) hHeld ?_
  rotate_left
  · intro wz hSw; have hw0 := hSw.1; go_simp; try (with_reducible rfl)
  try simp only [Act.put, List.setIfInBounds_toArray, List.set_cons_zero, List.set_cons_succ, List.getElem_toArray, List.getElem_cons_succ, List.getElem_cons_zero]
  refine take_at (some 33) (i := 5) (v := ?_) rfl rfl (by kernel_rfl) (by kernel_rfl) (by kernel_rfl) (fun _ _ _ h => h) (Or.inl ⟨by kernel_rfl, ?_⟩) hHeld ?_
  rotate_left
  · intro wz hSw; have hw0 := hSw.1; go_simp; try (with_reducible rfl)
  try simp only [Act.put, List.setIfInBounds_toArray, List.set_cons_zero, List.set_cons_succ, List.getElem_toArray, List.getElem_cons_succ, List.getElem_cons_zero]
  refine take_at (some 34) (i := 6) (v := ?_) rfl rfl (by kernel_rfl) (by kernel_rfl) (by kernel_rfl) (fun _ _ _ h => h) (Or.inl ⟨by kernel_rfl, ?_⟩) hHeld ?_
  rotate_left
  · intro wz hSw; have hw0 := hSw.1; go_simp; try (with_reducible rfl)
  try simp only [Act.put, List.setIfInBounds_toArray, List.set_cons_zero, List.set_cons_succ, List.getElem_toArray, List.getElem_cons_succ, List.getElem_cons_zero]
  refine take_at (some 35) (i := 7) (v := ?_) rfl rfl (by kernel_rfl) (by kernel_rfl) (by kernel_rfl) (fun _ _ _ h => h) (Or.inl ⟨by kernel_rfl, ?_⟩) hHeld ?_
  rotate_left
  · intro wz hSw; have hw0 := hSw.1; go_simp; try (with_reducible rfl)
  try simp only [Act.put, List.setIfInBounds_toArray, List.set_cons_zero, List.set_cons_succ, List.getElem_toArray, List.getElem_cons_succ, List.getElem_cons_zero]
  refine take_at (some 36) (i := 8) (v := ?_) rfl rfl (by kernel_rfl) (by kernel_rfl) (by kernel_rfl) (fun _ _ _ h => h) (Or.inl ⟨by kernel_rfl, ?_⟩) hHeld ?_
  rotate_left
  · intro wz hSw; have hw0 := hSw.1; go_simp; try (with_reducible rfl)
  try simp only [Act.put, List.setIfInBounds_toArray, List.set_cons_zero, List.set_cons_succ, List.getElem_toArray, List.getElem_cons_succ, List.getElem_cons_zero]
  refine take_at (some 37) (i := 9) rfl rfl (by kernel_rfl) (by kernel_rfl) (by kernel_rfl) (fun _ _ _ h => h) (yieldsIf_conv (by kernel_rfl) 47 5 9 (.tmp 36) rfl A6 m6 c6 sl rfl HM6.out (fun w h => h.2) Tryd.underlying47 Tryd.underlying5 Tryd.underlying9) hHeld ?_
  try simp only [Act.put, List.setIfInBounds_toArray, List.set_cons_zero, List.set_cons_succ, List.getElem_toArray, List.getElem_cons_succ, List.getElem_cons_zero]
  refine take_at (some 38) (i := 10) (v := ?_) rfl rfl (by kernel_rfl) (by kernel_rfl) (by kernel_rfl) (fun _ _ _ h => h) (Or.inl ⟨by kernel_rfl, ?_⟩) hHeld ?_
  rotate_left
  · intro wz hSw; have hw0 := hSw.1; go_simp; try (with_reducible rfl)
  try simp only [Act.put, List.setIfInBounds_toArray, List.set_cons_zero, List.set_cons_succ, List.getElem_toArray, List.getElem_cons_succ, List.getElem_cons_zero]
  refine take_at (some 39) (i := 11) (v := ?_) rfl rfl (by kernel_rfl) (by kernel_rfl) (by kernel_rfl) (fun _ _ _ h => h) (Or.inl ⟨by kernel_rfl, ?_⟩) hHeld ?_
  rotate_left
  · intro wz hSw; have hw0 := hSw.1; go_simp; try (with_reducible rfl)
  try simp only [Act.put, List.setIfInBounds_toArray, List.set_cons_zero, List.set_cons_succ, List.getElem_toArray, List.getElem_cons_succ, List.getElem_cons_zero]
  refine wpAnyH_ready (rs := [4, 12]) (by kernel_rfl) (by simp) (AllReadyH.cons rfl (fun K hK => ?_) (AllReadyH.cons rfl (fun K hK => ?_) AllReadyH.nil))
  · rw [if_pos (by kernel_rfl)]
    go_simp
    refine hK.out _ _ HS0.out.1 (fun hHeld => ?_)
    try simp only [Act.put, List.setIfInBounds_toArray, List.set_cons_zero, List.set_cons_succ, List.getElem_toArray, List.getElem_cons_succ, List.getElem_cons_zero]
    refine wpAnyH_ready (rs := [12]) (by kernel_rfl) (by simp) (AllReadyH.cons rfl (fun K hK => ?_) AllReadyH.nil)
    rw [if_pos (by kernel_rfl)]
    go_simp
    refine hK.out _ _ HS0.out.2 (fun hHeld => ?_)
    try simp only [Act.put, List.setIfInBounds_toArray, List.set_cons_zero, List.set_cons_succ, List.getElem_toArray, List.getElem_cons_succ, List.getElem_cons_zero]
    refine wpAnyH_ready (rs := [13]) (by kernel_rfl) (by simp) (AllReadyH.cons rfl (fun K hK => ?_) AllReadyH.nil)
    rw [if_pos (by kernel_rfl)]
    refine op_rows roK (.tmp 32) (.tmp 40) rfl q rfl HQ.out HLS.out [⟨bs l0, bs sl, nv⟩] _ 1 _ rfl rfl (fun h => by cases h) (Rw.bk HBK.out) (by omega) HSA.out.ES (q + 1) rfl ?_
    intro A4 c4' w4 ho4 hg4 hb4
    have hlen : (y.t.toks ++ [(⟨bs l0, bs sl, nv⟩ : Tk)]).length = q + 1 := by rw [List.length_append, HQ.out]; rfl
    have HTT := Lib.hid (HSA.out.setK hg4 ho4 (fun z hz => by rcases List.mem_append.1 hz with hz | hz; exact (HSA.out.sm y (List.mem_append.2 (.inr (List.mem_singleton.2 rfl)))).szk z hz; rw [List.mem_singleton.1 hz]; exact HZ.out))
    rw [HT.out, hlen] at HTT
    have HCT := Lib.hid (show Ch B r u (w4.setCell ⟨g, n * 5 + 4, none⟩ (.slice A4 (q + 1) c4')) from ((HCD.out.trans (Ch.alloc _ _)).trans (Ch.grown hg4 HLS.out HSA.out.BE)).trans (Ch.set _ (p := ⟨g, n * 5 + 4, none⟩) (.inr (HSA.out.row.block 0 g rfl).1) _))
    obtain ⟨_, _, gcs, hgb⟩ := HSA.out.row.block 0 g rfl
    have hgb4 := grown_ty hg4 HLS.out hgb (.inl (by decide))
    have f4 := hgb4.frozen (n * 5 + 4)
    have q4 : w4.cell? ⟨g, n * 5 + 4, none⟩ = some (.slice y.Ak q y.ck) := hg4.cell j4a (fun e => by obtain ⟨_, _, cs2, k2⟩ := HLS.out.block q g e.symm; exact hgb.ty k2 (by decide) rfl)
    obtain ⟨bcs, hbk⟩ := HWA.out
    have hbk4 := grown_ty hg4 HLS.out hbk (.inl (by decide))
    have HNE := Lib.hid (show b ≠ g from hbk4.ty hgb4 (by decide))
    have s4 : w4.cell? ⟨b, o, none⟩ = some (.string (bs l0)) ∧ Rb w4 u2.heap.size A6 sl := ⟨hg4.cell HS0.out.2.1 (fun e => by obtain ⟨_, _, cs2, k2⟩ := HLS.out.block q b e.symm; exact hbk.ty k2 (by decide) rfl), HS0.out.2.2.gr hg4 (by have := HR3.out.2; rw [World.size_alloc]; show _ ≤ u3.heap.size + 1; omega) (fun b' o' e => HNS.out.2 b' o' q e)⟩
    have HS4 := Lib.hid s4
    clear ho4 hg4 hb4 hgb hgb4 hlen hbk hbk4
    refine hK.out _ _ s4 (fun hHeld => ?_)
    try simp only [Act.put, List.setIfInBounds_toArray, List.set_cons_zero, List.set_cons_succ, List.getElem_toArray, List.getElem_cons_succ, List.getElem_cons_zero]
    refine take_at (some 42) (i := 14) (v := ?_) rfl rfl (by kernel_rfl) (by kernel_rfl) (by kernel_rfl) (fun _ _ _ h => h) (Or.inl ⟨by kernel_rfl, ?_⟩) hHeld ?_
    rotate_left
    · intro wz hSw; go_simp; try (with_reducible rfl)
    try simp only [Act.put, List.setIfInBounds_toArray, List.set_cons_zero, List.set_cons_succ, List.getElem_toArray, List.getElem_cons_succ, List.getElem_cons_zero]
    refine take_at (some 43) (i := 15) (v := ?_) rfl rfl (by kernel_rfl) (by kernel_rfl) (by kernel_rfl) (fun _ _ _ h => h) (Or.inl ⟨by kernel_rfl, ?_⟩) hHeld ?_
    rotate_left
    · intro wz hSw; go_simp; try (with_reducible rfl)
    try simp only [Act.put, List.setIfInBounds_toArray, List.set_cons_zero, List.set_cons_succ, List.getElem_toArray, List.getElem_cons_succ, List.getElem_cons_zero]
    refine wpAnyH_ready (rs := [16]) (by kernel_rfl) (by simp) (AllReadyH.cons rfl (fun K hK => ?_) AllReadyH.nil)
    rw [if_pos (by kernel_rfl)]
    clear s4
    go_simp
    refine hK.out _ _ (show (w4.setCell ⟨g, n * 5 + 4, none⟩ (.slice A4 (q + 1) c4')).cell? ⟨b, o, none⟩ = some (.string (bs l0)) ∧ Rb (w4.setCell ⟨g, n * 5 + 4, none⟩ (.slice A4 (q + 1) c4')) u2.heap.size A6 sl from ⟨(World.cell?_of_block (w := w4) (a := ⟨b, o, none⟩) (Below.heap_setCell _ _ _ _ HNE.out)).trans HS4.out.1, HS4.out.2.farB _ _ HNS.out.1⟩) (fun hHeld => ?_)
    try simp only [Act.put, List.setIfInBounds_toArray, List.set_cons_zero, List.set_cons_succ, List.getElem_toArray, List.getElem_cons_succ, List.getElem_cons_zero]
    refine wpAnyH_done (by kernel_rfl) ?_ _
    clear hHeld
    cases s1 <;> cases s2
    all_goals go_wp2_with fail
    all_goals go_ret
    · exact ⟨⟨false, rfl, (fun hh => by cases hh), fun _ => tok_none (.inl (by rw [HO.out.1]; exact Option.not_isSome_iff_eq_none.1 (by rw [HD.out.1.2]; simp)))⟩, HCT.out⟩
    · exact ⟨⟨false, rfl, (fun hh => by cases hh), fun _ => tok_none (.inl (by rw [HO.out.1]; exact Option.not_isSome_iff_eq_none.1 (by rw [HD.out.1.2]; simp)))⟩, HCT.out⟩
    · exact ⟨⟨false, rfl, (fun hh => by cases hh), fun _ => tok_none (.inr (by rw [HO.out.2]; exact Option.not_isSome_iff_eq_none.1 (by rw [HD.out.2.2]; simp)))⟩, HCT.out⟩
    · refine ⟨⟨true, rfl, fun _ => ⟨E, _, HTT.out, ?_⟩, fun hh => by cases hh⟩, HCT.out⟩
      have e1 : unhexB l1 = some sl := by rw [HO.out.1]; exact some_ofL HD.out.1.1 HD.out.1.2
      have e2 : decO l2 = some nv := by rw [HO.out.2]; exact some_of HD.out.2.1 HD.out.2.2
      simp only [readToken, HLC.out, e1, e2]
      rw [set_cg]
  · rw [if_pos (by kernel_rfl)]
    go_simp
    refine hK.out _ _ HS0.out.2 (fun hHeld => ?_)
    try simp only [Act.put, List.setIfInBounds_toArray, List.set_cons_zero, List.set_cons_succ, List.getElem_toArray, List.getElem_cons_succ, List.getElem_cons_zero]
    refine wpAnyH_ready (rs := [4]) (by kernel_rfl) (by simp) (AllReadyH.cons rfl (fun K hK => ?_) AllReadyH.nil)
    rw [if_pos (by kernel_rfl)]
    go_simp
    refine hK.out _ _ HS0.out.2 (fun hHeld => ?_)
    try simp only [Act.put, List.setIfInBounds_toArray, List.set_cons_zero, List.set_cons_succ, List.getElem_toArray, List.getElem_cons_succ, List.getElem_cons_zero]
    refine wpAnyH_ready (rs := [13]) (by kernel_rfl) (by simp) (AllReadyH.cons rfl (fun K hK => ?_) AllReadyH.nil)
    rw [if_pos (by kernel_rfl)]
    refine op_rows roK (.tmp 32) (.tmp 40) rfl q rfl HQ.out HLS.out [⟨bs l0, bs sl, nv⟩] _ 1 _ rfl rfl (fun h => by cases h) (Rw.bk HBK.out) (by omega) HSA.out.ES (q + 1) rfl ?_
    intro A4 c4' w4 ho4 hg4 hb4
    have hlen : (y.t.toks ++ [(⟨bs l0, bs sl, nv⟩ : Tk)]).length = q + 1 := by rw [List.length_append, HQ.out]; rfl
    have HTT := Lib.hid (HSA.out.setK hg4 ho4 (fun z hz => by rcases List.mem_append.1 hz with hz | hz; exact (HSA.out.sm y (List.mem_append.2 (.inr (List.mem_singleton.2 rfl)))).szk z hz; rw [List.mem_singleton.1 hz]; exact HZ.out))
    rw [HT.out, hlen] at HTT
    have HCT := Lib.hid (show Ch B r u (w4.setCell ⟨g, n * 5 + 4, none⟩ (.slice A4 (q + 1) c4')) from ((HCD.out.trans (Ch.alloc _ _)).trans (Ch.grown hg4 HLS.out HSA.out.BE)).trans (Ch.set _ (p := ⟨g, n * 5 + 4, none⟩) (.inr (HSA.out.row.block 0 g rfl).1) _))
    obtain ⟨_, _, gcs, hgb⟩ := HSA.out.row.block 0 g rfl
    have hgb4 := grown_ty hg4 HLS.out hgb (.inl (by decide))
    have f4 := hgb4.frozen (n * 5 + 4)
    have q4 : w4.cell? ⟨g, n * 5 + 4, none⟩ = some (.slice y.Ak q y.ck) := hg4.cell j4a (fun e => by obtain ⟨_, _, cs2, k2⟩ := HLS.out.block q g e.symm; exact hgb.ty k2 (by decide) rfl)
    obtain ⟨bcs, hbk⟩ := HWA.out
    have hbk4 := grown_ty hg4 HLS.out hbk (.inl (by decide))
    have HNE := Lib.hid (show b ≠ g from hbk4.ty hgb4 (by decide))
    have s4 : w4.cell? ⟨b, o, none⟩ = some (.string (bs l0)) ∧ Rb w4 u2.heap.size A6 sl := ⟨hg4.cell HS0.out.2.1 (fun e => by obtain ⟨_, _, cs2, k2⟩ := HLS.out.block q b e.symm; exact hbk.ty k2 (by decide) rfl), HS0.out.2.2.gr hg4 (by have := HR3.out.2; rw [World.size_alloc]; show _ ≤ u3.heap.size + 1; omega) (fun b' o' e => HNS.out.2 b' o' q e)⟩
    have HS4 := Lib.hid s4
    clear ho4 hg4 hb4 hgb hgb4 hlen hbk hbk4
    refine hK.out _ _ s4 (fun hHeld => ?_)
    try simp only [Act.put, List.setIfInBounds_toArray, List.set_cons_zero, List.set_cons_succ, List.getElem_toArray, List.getElem_cons_succ, List.getElem_cons_zero]
    refine take_at (some 42) (i := 14) (v := ?_) rfl rfl (by kernel_rfl) (by kernel_rfl) (by kernel_rfl) (fun _ _ _ h => h) (Or.inl ⟨by kernel_rfl, ?_⟩) hHeld ?_
    rotate_left
    · intro wz hSw; go_simp; try (with_reducible rfl)
    try simp only [Act.put, List.setIfInBounds_toArray, List.set_cons_zero, List.set_cons_succ, List.getElem_toArray, List.getElem_cons_succ, List.getElem_cons_zero]
    refine take_at (some 43) (i := 15) (v := ?_) rfl rfl (by kernel_rfl) (by kernel_rfl) (by kernel_rfl) (fun _ _ _ h => h) (Or.inl ⟨by kernel_rfl, ?_⟩) hHeld ?_
    rotate_left
    · intro wz hSw; go_simp; try (with_reducible rfl)
    try simp only [Act.put, List.setIfInBounds_toArray, List.set_cons_zero, List.set_cons_succ, List.getElem_toArray, List.getElem_cons_succ, List.getElem_cons_zero]
    refine wpAnyH_ready (rs := [16]) (by kernel_rfl) (by simp) (AllReadyH.cons rfl (fun K hK => ?_) AllReadyH.nil)
    rw [if_pos (by kernel_rfl)]
    clear s4
    go_simp
    refine hK.out _ _ (show (w4.setCell ⟨g, n * 5 + 4, none⟩ (.slice A4 (q + 1) c4')).cell? ⟨b, o, none⟩ = some (.string (bs l0)) ∧ Rb (w4.setCell ⟨g, n * 5 + 4, none⟩ (.slice A4 (q + 1) c4')) u2.heap.size A6 sl from ⟨(World.cell?_of_block (w := w4) (a := ⟨b, o, none⟩) (Below.heap_setCell _ _ _ _ HNE.out)).trans HS4.out.1, HS4.out.2.farB _ _ HNS.out.1⟩) (fun hHeld => ?_)
    try simp only [Act.put, List.setIfInBounds_toArray, List.set_cons_zero, List.set_cons_succ, List.getElem_toArray, List.getElem_cons_succ, List.getElem_cons_zero]
    refine wpAnyH_done (by kernel_rfl) ?_ _
    clear hHeld
    cases s1 <;> cases s2
    all_goals go_wp2_with fail
    all_goals go_ret
    · exact ⟨⟨false, rfl, (fun hh => by cases hh), fun _ => tok_none (.inl (by rw [HO.out.1]; exact Option.not_isSome_iff_eq_none.1 (by rw [HD.out.1.2]; simp)))⟩, HCT.out⟩
    · exact ⟨⟨false, rfl, (fun hh => by cases hh), fun _ => tok_none (.inl (by rw [HO.out.1]; exact Option.not_isSome_iff_eq_none.1 (by rw [HD.out.1.2]; simp)))⟩, HCT.out⟩
    · exact ⟨⟨false, rfl, (fun hh => by cases hh), fun _ => tok_none (.inr (by rw [HO.out.2]; exact Option.not_isSome_iff_eq_none.1 (by rw [HD.out.2.2]; simp)))⟩, HCT.out⟩
    · refine ⟨⟨true, rfl, fun _ => ⟨E, _, HTT.out, ?_⟩, fun hh => by cases hh⟩, HCT.out⟩
      have e1 : unhexB l1 = some sl := by rw [HO.out.1]; exact some_ofL HD.out.1.1 HD.out.1.2
      have e2 : decO l2 = some nv := by rw [HO.out.2]; exact some_of HD.out.2.1 HD.out.2.2
      simp only [readToken, HLC.out, e1, e2]
      rw [set_cg]
end Go.Proofs.YtfpjkedcpnmfeaaDoor

/- config.kinds: its contract; a look-up in what it made. -/
namespace Go.Proofs.YtfpjkedcpnmfeaaDoor
set_option linter.unusedVariables false
set_option linter.unusedSimpArgs false
open Go.RowKit Go.MapKept

/-- At b lies a map of these entries. -/
def Mb (w : World) (b : Nat) (es : Array MapEntry) (clk : Nat) : Prop := w.heap[b]? = some (.map es clk)
theorem Mb.lt {w : World} {b : Nat} {es : Array MapEntry} {clk : Nat} (h : Mb w b es clk) : b < w.heap.size := (Array.getElem?_eq_some_iff.1 h).1

theorem run_check {P : Program} {k : TypeId} (hk : P.underlying k = some .string) (s : ByteArray) (e : Bool) (w : World) : (Instr.checkKey e 10000 k (.string s)).run P w = .ok () w := by
  show (Instr.checkKey e (9999 + 1) k (.string s)).run P w = _
  unfold Instr.checkKey
  simp [run_underlying hk, Result.andThen]
theorem run_find {P : Program} {k : TypeId} (hk : P.underlying k = some .string) (s : ByteArray) (es : List MapEntry) (r : Option (Nat × Value)) (h : Instr.findNow .string (.string s) es 0 = some r) (w : World) : (Instr.findKey k (.string s) es).run P w = .ok r w := by
  unfold Instr.findKey
  simp [run_underlying hk, Result.andThen, h]
theorem run_ins {P : Program} {t k e : TypeId} (ht : P.underlying t = some (.map k e)) (hk : P.underlying k = some .string) (s : ByteArray) (v : Value) {w : World} {b : Nat} {es : Array MapEntry} {clk : Nat} (hb : Mb w b es clk) (h : Instr.findNow .string (.string s) es.toList 0 = some none) :
    (Instr.mapUpdate t (.map (some b)) (.string s) v).run P w = .ok () (w.putObj b (.map (es.push ⟨.string s, v, clk⟩) (clk + 1))) := by
  unfold Instr.mapUpdate
  have h1 := Go.MapKept.run_getObj_map (P := P) hb
  have h2 := Go.MapKept.run_setObj_map (P := P) (.map (es.push ⟨.string s, v, clk⟩) (clk + 1)) hb
  simp [run_underlying ht, Result.andThen, h1, run_check hk, run_find hk s _ _ h, h2]
  rfl
theorem Mb.put {w : World} {b : Nat} {es es' : Array MapEntry} {clk clk' : Nat} (h : Mb w b es clk) : Mb (w.putObj b (.map es' clk')) b es' clk' := World.putObj_heap_same h.lt
theorem below_put {w w' : World} {B b : Nat} {o : Obj} (h : Below B w w') (hb : B ≤ b) : Below B w (w'.putObj b o) :=
  ⟨h.os, h.tape, h.output, by have := h.size; simp [World.putObj]; omega, fun k hk => by rw [World.putObj_heap_other (by omega)]; exact h.block k hk⟩
/-- One entry more, as an operation. -/
theorem wp_ins {P : Program} {ops : Array Oper} {rest : List Oper} {o : Oper} {a : Act} {Q : Exit → Act → World → Prop} {w : World} (hgd : o.guard = none) (t k e : TypeId) (m x : Operand) (s : ByteArray) (ho : o.op = .insert t m (.const (.string s)) x) (ht : P.underlying t = some (.map k e)) (hk : P.underlying k = some .string)
    (b : Nat) (v : Value) (hm : a.eval m = .map (some b)) (hx : a.eval x = v) {es : Array MapEntry} {clk : Nat} (hb : Mb w b es clk) (h : Instr.findNow .string (.string s) es.toList 0 = some none)
    (hK : wpList P ops Q rest (a.put o.dst undef) (w.putObj b (.map (es.push ⟨.string s, v, clk⟩) (clk + 1)))) : wpList P ops Q (o :: rest) a w :=
  wpList_plain hgd fun K hKK => by
    have h1 := run_ins ht hk s v hb h
    have hc : a.eval (.const (.string s)) = .string s := rfl
    unfold Oper.wp execOp
    simp [ho, hm, hx, h1, hc, Result.andThen]
    exact hKK _ _ hK

def kindEs : Array MapEntry := #[⟨.string (bs wTimes), .agg #[.int .i64 4, .func (.func 47) #[] #[]], 0⟩, ⟨.string (bs wTenant), .agg #[.int .i64 3, .func (.func 48) #[] #[]], 1⟩,
  ⟨.string (bs wNet), .agg #[.int .i64 1, .func (.func 49) #[] #[]], 2⟩, ⟨.string (bs wToken), .agg #[.int .i64 3, .func (.func 50) #[] #[]], 3⟩]

set_option maxRecDepth 100000 in
set_option maxHeartbeats 2000000 in
theorem kinds_ok (w : World) : Calls Tryd.prog 25 #[] w fun e w' => e = .returned (.map (some w.heap.size)) ∧ Mb w' w.heap.size kindEs 4 ∧ Below w.heap.size w w' := by
  have hmm := @run_makeMap Tryd.prog
  have B0 : Below w.heap.size w (w.alloc (.map #[] 0)) := (Below.refl _ _).alloc (Nat.le_refl _) _
  have M0 : Mb (w.alloc (.map #[] 0)) w.heap.size #[] 0 := World.alloc_heap_new w _
  have H0 := Lib.hid (And.intro M0 B0)
  clear M0 B0
  go_enter Tryd.func25, Tryd.ntmps25
  go_wp2_with (first
    | (refine wp_ins rfl 63 9 71 (.tmp 1) (.tmp 2) (bs wTimes) rfl Tryd.underlying63 Tryd.underlying9 w.heap.size _ rfl rfl H0.out.1 rfl ?_; have H1 := Lib.hid (And.intro (Mb.put (es' := #[kindEs[0]]) (clk' := 1) H0.out.1) (below_put (o := .map #[kindEs[0]] 1) H0.out.2 (Nat.le_refl _))))
    | (refine wp_ins rfl 63 9 71 (.tmp 1) (.tmp 3) (bs wTenant) rfl Tryd.underlying63 Tryd.underlying9 w.heap.size _ rfl rfl H1.out.1 rfl ?_; have H2 := Lib.hid (And.intro (Mb.put (es' := #[kindEs[0], kindEs[1]]) (clk' := 2) H1.out.1) (below_put (o := .map #[kindEs[0], kindEs[1]] 2) H1.out.2 (Nat.le_refl _))))
    | (refine wp_ins rfl 63 9 71 (.tmp 1) (.tmp 4) (bs wNet) rfl Tryd.underlying63 Tryd.underlying9 w.heap.size _ rfl rfl H2.out.1 rfl ?_; have H3 := Lib.hid (And.intro (Mb.put (es' := #[kindEs[0], kindEs[1], kindEs[2]]) (clk' := 3) H2.out.1) (below_put (o := .map #[kindEs[0], kindEs[1], kindEs[2]] 3) H2.out.2 (Nat.le_refl _))))
    | (refine wp_ins rfl 63 9 71 (.tmp 1) (.tmp 5) (bs wToken) rfl Tryd.underlying63 Tryd.underlying9 w.heap.size _ rfl rfl H3.out.1 rfl ?_; have H4 := Lib.hid (And.intro (Mb.put (es' := kindEs) (clk' := 4) H3.out.1) (below_put (o := .map kindEs 4) H3.out.2 (Nat.le_refl _)))))
  go_ret
  exact ⟨rfl, H4.out.1, H4.out.2⟩
end Go.Proofs.YtfpjkedcpnmfeaaDoor

/- (*reading).take: its contract. (Written by gen_cgp7.py.) -/
namespace Go.Proofs.YtfpjkedcpnmfeaaDoor
set_option linter.unusedVariables false
set_option linter.unusedSimpArgs false
open Go.RowKit

/-- What was read so far is small. -/
def SmC (x : Cv) : Prop := x.ts.length ≤ 8 ∧ ∀ y ∈ x.ts, y.t.nets.length ≤ 4 ∧ y.t.toks.length ≤ 4
theorem smC_of {x : Cv} (h : cfgB x.cg = true) : SmC x := by
  obtain ⟨_, _, _, _, h1, _, h2⟩ := cfgB_parts h
  refine ⟨by simpa [Cv.cg] using h1, fun y hy => ?_⟩
  have := tenB_parts (h2 y.t (List.mem_map.2 ⟨y, hy, rfl⟩))
  exact ⟨this.2.2.1, this.2.2.2.2.1⟩
theorem smC_nil {x : Cv} (h : x.ts = []) : SmC x := ⟨by rw [h]; simp, fun y hy => by rw [h] at hy; cases hy⟩
/-- What take leaves. -/
structure Tp (u : World) (B r : Nat) (o : Option Cg) (e : Ending) (u' : World) : Prop where
  ex : ∃ v, e = .returned (.bool v) ∧ v = (okC o).isSome ∧ (v = true → ∃ E' x', Sc u' B r E' x' ∧ okC o = some x'.cg)
  ch : Ch B r u u'
theorem rv_ways {u u' : World} {B r : Nat} {o : Option Cg} {e : Ending} (h : Rv u B r o e u') : (e = .returned (.bool false) ∧ okC o = none ∧ Ch B r u u') ∨ (e = .returned (.bool true) ∧ ∃ E' b0 b1 b2 b3 ts' A' c', Sc u' B r E' ⟨b0, b1, b2, b3, ts', A', c'⟩ ∧ o = some (Cv.cg ⟨b0, b1, b2, b3, ts', A', c'⟩) ∧ Ch B r u u') := by
  obtain ⟨⟨v, rfl, h1, h2⟩, h3⟩ := h
  cases v with
  | false => exact .inl ⟨rfl, h2 rfl, h3⟩
  | true =>
    obtain ⟨E', ⟨b0, b1, b2, b3, ts', A', c'⟩, k1, k2⟩ := h1 rfl
    exact .inr ⟨rfl, E', b0, b1, b2, b3, ts', A', c', k1, k2, h3⟩
theorem rv_net {u : World} {B r E : Nat} {x : Cv} {b o cw : Nat} {l0 : List UInt8} (h : Sc u B r E x) (hs : SmC x) (hw : Wd u B b o [bs l0]) (z0 : l0.length ≤ 4096) :
    Calls Tryd.prog 49 #[.pointer (some ⟨r, 0, none⟩), .slice (some ⟨b, o, none⟩) 1 cw] u (Rv u B r (readNet x.cg [l0])) := by
  rcases List.eq_nil_or_concat x.ts with h0 | ⟨T, y, h0⟩
  · exact netl_none u B r E x _ l0 h h0
  · rw [List.concat_eq_append] at h0
    obtain ⟨a0, a1, a2, a3, ts, A, c⟩ := x
    dsimp only at h0
    subst h0
    obtain ⟨g, rfl⟩ := h.form
    obtain ⟨h1, h2⟩ := hs
    simp only [List.length_append, List.length_singleton] at h1
    exact netl_some u B r E g T.length a0 a1 a2 a3 T y c b o cw l0 h rfl (by omega) (h2 y (List.mem_append.2 (.inr (List.mem_singleton.2 rfl)))).1 hw (by omega)
theorem rv_tok {u : World} {B r E : Nat} {x : Cv} {b o cw : Nat} {l0 l1 l2 : List UInt8} (h : Sc u B r E x) (hs : SmC x) (hw : Wd u B b o [bs l0, bs l1, bs l2]) (z0 : l0.length ≤ 4096) (z1 : l1.length ≤ 4096) (z2 : l2.length ≤ 4096) :
    Calls Tryd.prog 50 #[.pointer (some ⟨r, 0, none⟩), .slice (some ⟨b, o, none⟩) 3 cw] u (Rv u B r (readToken x.cg [l0, l1, l2])) := by
  rcases List.eq_nil_or_concat x.ts with h0 | ⟨T, y, h0⟩
  · exact tokl_none u B r E x _ l0 l1 l2 h h0
  · rw [List.concat_eq_append] at h0
    obtain ⟨a0, a1, a2, a3, ts, A, c⟩ := x
    dsimp only at h0
    subst h0
    obtain ⟨g, rfl⟩ := h.form
    obtain ⟨h1, h2⟩ := hs
    simp only [List.length_append, List.length_singleton] at h1
    exact tokl_some u B r E g T.length a0 a1 a2 a3 T y c b o cw l0 l1 l2 h rfl (by omega) (h2 y (List.mem_append.2 (.inr (List.mem_singleton.2 rfl)))).2 hw (by omega) (by omega) (by omega)

theorem mis_times {c : Cg} {L : List (List UInt8)} (h : L.length ≠ 4) : okC (readTimes c L) = none := by
  match L, h with
  | [], _ => rfl
  | [_], _ => rfl
  | [_, _], _ => rfl
  | [_, _, _], _ => rfl
  | [_, _, _, _], h => exact absurd rfl h
  | _ :: _ :: _ :: _ :: _ :: _, _ => rfl
set_option maxRecDepth 100000 in
set_option maxHeartbeats 4000000 in
theorem take_times (u : World) (B r E : Nat) (x : Cv) (b o n cw : Nat) (L : List (List UInt8)) (h : Sc u B r E x) (hs : SmC x) (hw : Wd u B b o (L.map bs)) (hn : L.length = n) (hz : ∀ l ∈ L, l.length ≤ 4096) (hn9 : n ≤ 9223372036854775807) :
    Calls Tryd.prog 27 #[.pointer (some ⟨r, 0, none⟩), .agg #[.int .i64 4, .func (.func 47) #[] #[]], .slice (some ⟨b, o, none⟩) n cw] u (Tp u B r (readTimes x.cg L)) := by
  by_cases hq : n = 4
  · subst hq
    match L, hn with
    | [l0, l1, l2, l3], _ =>
      have z0 := hz l0 (by simp)
      have z1 := hz l1 (by simp)
      have z2 := hz l2 (by simp)
      have z3 := hz l3 (by simp)
      have hS : Sc (u.alloc (.cells #[.int .i64 4, .func (.func 47) #[] #[]] 71)) B r E x := h.on ((Below.refl _ _).alloc (Nat.le_refl _) _)
      have hW : Wd (u.alloc (.cells #[.int .i64 4, .func (.func 47) #[] #[]] 71)) B b o [bs l0, bs l1, bs l2, bs l3] := hw.on ((Below.refl _ _).alloc (Nat.le_refl _) _)
      have HR := Lib.hid (times_ok _ B r E x b o cw l0 l1 l2 l3 hS hW (by omega) (by omega) (by omega) (by omega))
      obtain ⟨O, hO⟩ : ∃ O, readTimes x.cg [l0, l1, l2, l3] = O := ⟨_, rfl⟩
      rw [hO] at HR ⊢
      have hCh : Ch B r u (u.alloc (.cells #[.int .i64 4, .func (.func 47) #[] #[]] 71)) := Ch.alloc _ _
      have HC := Lib.hid hCh
      clear h hs hw hz hS hW hO hCh z0 z1 z2 z3
      go_enter Tryd.func27, Tryd.ntmps27
      go_wp2_with (first
        | (go_at_call 47; refine HR.out.mono ?_; rintro e u2 hrv; rcases rv_ways hrv with ⟨rfl, hno, hch⟩ | ⟨rfl, E', b0, b1, b2, b3, ts', A', c', hS', ho, hch⟩; all_goals (first | (have HV := Lib.hid hno; have HC2 := Lib.hid (HC.out.trans hch); clear hno hch hrv) | (have HS' := Lib.hid hS'; have HC2 := Lib.hid (HC.out.trans hch); have HRC := Lib.hid (right_cfg ⟨b0, b1, b2, b3, ts', A', c'⟩ u2 hS'.rc); have HOK := Lib.hid ho; have d0 : u2.cell? ⟨r, 0, none⟩ = some (.int .i64 b0) := hS'.blk.cell 0; have d1 : u2.cell? ⟨r, 1, none⟩ = some (.int .i64 b1) := hS'.blk.cell 1; have d2 : u2.cell? ⟨r, 2, none⟩ = some (.int .i64 b2) := hS'.blk.cell 2; have d3 : u2.cell? ⟨r, 3, none⟩ = some (.int .i64 b3) := hS'.blk.cell 3; have d4 : u2.cell? ⟨r, 4, none⟩ = some (.slice A' ts'.length c') := hS'.blk.cell 4; clear hS' ho hch hrv)))
        | (go_at_call 11; refine HRC.out.mono ?_; rintro e u3 ⟨rfl, hb3⟩; have HS3 := Lib.hid (HS'.out.on hb3); have HC3 := Lib.hid (HC2.out.trans (Ch.of hb3)); clear hb3))
      · go_ret
        exact ⟨⟨false, rfl, by rw [HV.out]; rfl, fun hh => by cases hh⟩, HC2.out⟩
      · go_ret
        refine ⟨⟨_, rfl, ?_, fun hh => ⟨E', _, HS3.out, ?_⟩⟩, HC3.out⟩
        · rw [HOK.out]
          unfold okC
          by_cases hc : cfgB (Cv.cg ⟨b0, b1, b2, b3, ts', A', c'⟩) = true
          · simp only [if_pos hc]; exact hc
          · simp only [if_neg hc]; exact Bool.eq_false_iff.2 hc
        · rw [HOK.out]
          have hc : cfgB (Cv.cg ⟨b0, b1, b2, b3, ts', A', c'⟩) = true := hh
          unfold okC
          simp only [if_pos hc]
  · have hne : ((n : Int) == 4) = false := by rw [beq_eq_false_iff_ne]; omega
    have HN := Lib.hid (mis_times (c := x.cg) (L := L) (by rw [hn]; exact hq))
    have HC := Lib.hid (show Ch B r u (u.alloc (.cells #[.int .i64 4, .func (.func 47) #[] #[]] 71)) from Ch.alloc _ _)
    clear h hs hw hz hn hq
    go_enter Tryd.func27, Tryd.ntmps27
    go_wp2_with fail
    go_ret
    exact ⟨⟨false, rfl, by rw [HN.out]; rfl, fun hh => by cases hh⟩, HC.out⟩

theorem mis_tenant {c : Cg} {L : List (List UInt8)} (h : L.length ≠ 3) : okC (readTenant c L) = none := by
  match L, h with
  | [], _ => rfl
  | [_], _ => rfl
  | [_, _], _ => rfl
  | [_, _, _], h => exact absurd rfl h
  | _ :: _ :: _ :: _ :: _, _ => rfl
set_option maxRecDepth 100000 in
set_option maxHeartbeats 4000000 in
theorem take_tenant (u : World) (B r E : Nat) (x : Cv) (b o n cw : Nat) (L : List (List UInt8)) (h : Sc u B r E x) (hs : SmC x) (hw : Wd u B b o (L.map bs)) (hn : L.length = n) (hz : ∀ l ∈ L, l.length ≤ 4096) (hn9 : n ≤ 9223372036854775807) :
    Calls Tryd.prog 27 #[.pointer (some ⟨r, 0, none⟩), .agg #[.int .i64 3, .func (.func 48) #[] #[]], .slice (some ⟨b, o, none⟩) n cw] u (Tp u B r (readTenant x.cg L)) := by
  by_cases hq : n = 3
  · subst hq
    match L, hn with
    | [l0, l1, l2], _ =>
      have z0 := hz l0 (by simp)
      have z1 := hz l1 (by simp)
      have z2 := hz l2 (by simp)
      have hS : Sc (u.alloc (.cells #[.int .i64 3, .func (.func 48) #[] #[]] 71)) B r E x := h.on ((Below.refl _ _).alloc (Nat.le_refl _) _)
      have hW : Wd (u.alloc (.cells #[.int .i64 3, .func (.func 48) #[] #[]] 71)) B b o [bs l0, bs l1, bs l2] := hw.on ((Below.refl _ _).alloc (Nat.le_refl _) _)
      have HR := Lib.hid (tenant_ok _ B r E x b o cw l0 l1 l2 hS hs.1 hW (by omega) (by omega) (by omega))
      obtain ⟨O, hO⟩ : ∃ O, readTenant x.cg [l0, l1, l2] = O := ⟨_, rfl⟩
      rw [hO] at HR ⊢
      have hCh : Ch B r u (u.alloc (.cells #[.int .i64 3, .func (.func 48) #[] #[]] 71)) := Ch.alloc _ _
      have HC := Lib.hid hCh
      clear h hs hw hz hS hW hO hCh z0 z1 z2
      go_enter Tryd.func27, Tryd.ntmps27
      go_wp2_with (first
        | (go_at_call 48; refine HR.out.mono ?_; rintro e u2 hrv; rcases rv_ways hrv with ⟨rfl, hno, hch⟩ | ⟨rfl, E', b0, b1, b2, b3, ts', A', c', hS', ho, hch⟩; all_goals (first | (have HV := Lib.hid hno; have HC2 := Lib.hid (HC.out.trans hch); clear hno hch hrv) | (have HS' := Lib.hid hS'; have HC2 := Lib.hid (HC.out.trans hch); have HRC := Lib.hid (right_cfg ⟨b0, b1, b2, b3, ts', A', c'⟩ u2 hS'.rc); have HOK := Lib.hid ho; have d0 : u2.cell? ⟨r, 0, none⟩ = some (.int .i64 b0) := hS'.blk.cell 0; have d1 : u2.cell? ⟨r, 1, none⟩ = some (.int .i64 b1) := hS'.blk.cell 1; have d2 : u2.cell? ⟨r, 2, none⟩ = some (.int .i64 b2) := hS'.blk.cell 2; have d3 : u2.cell? ⟨r, 3, none⟩ = some (.int .i64 b3) := hS'.blk.cell 3; have d4 : u2.cell? ⟨r, 4, none⟩ = some (.slice A' ts'.length c') := hS'.blk.cell 4; clear hS' ho hch hrv)))
        | (go_at_call 11; refine HRC.out.mono ?_; rintro e u3 ⟨rfl, hb3⟩; have HS3 := Lib.hid (HS'.out.on hb3); have HC3 := Lib.hid (HC2.out.trans (Ch.of hb3)); clear hb3))
      · go_ret
        exact ⟨⟨false, rfl, by rw [HV.out]; rfl, fun hh => by cases hh⟩, HC2.out⟩
      · go_ret
        refine ⟨⟨_, rfl, ?_, fun hh => ⟨E', _, HS3.out, ?_⟩⟩, HC3.out⟩
        · rw [HOK.out]
          unfold okC
          by_cases hc : cfgB (Cv.cg ⟨b0, b1, b2, b3, ts', A', c'⟩) = true
          · simp only [if_pos hc]; exact hc
          · simp only [if_neg hc]; exact Bool.eq_false_iff.2 hc
        · rw [HOK.out]
          have hc : cfgB (Cv.cg ⟨b0, b1, b2, b3, ts', A', c'⟩) = true := hh
          unfold okC
          simp only [if_pos hc]
  · have hne : ((n : Int) == 3) = false := by rw [beq_eq_false_iff_ne]; omega
    have HN := Lib.hid (mis_tenant (c := x.cg) (L := L) (by rw [hn]; exact hq))
    have HC := Lib.hid (show Ch B r u (u.alloc (.cells #[.int .i64 3, .func (.func 48) #[] #[]] 71)) from Ch.alloc _ _)
    clear h hs hw hz hn hq
    go_enter Tryd.func27, Tryd.ntmps27
    go_wp2_with fail
    go_ret
    exact ⟨⟨false, rfl, by rw [HN.out]; rfl, fun hh => by cases hh⟩, HC.out⟩

theorem mis_net {c : Cg} {L : List (List UInt8)} (h : L.length ≠ 1) : okC (readNet c L) = none := by
  match L, h with
  | [], _ => rfl
  | [_], h => exact absurd rfl h
  | _ :: _ :: _, _ => rfl
set_option maxRecDepth 100000 in
set_option maxHeartbeats 4000000 in
theorem take_net (u : World) (B r E : Nat) (x : Cv) (b o n cw : Nat) (L : List (List UInt8)) (h : Sc u B r E x) (hs : SmC x) (hw : Wd u B b o (L.map bs)) (hn : L.length = n) (hz : ∀ l ∈ L, l.length ≤ 4096) (hn9 : n ≤ 9223372036854775807) :
    Calls Tryd.prog 27 #[.pointer (some ⟨r, 0, none⟩), .agg #[.int .i64 1, .func (.func 49) #[] #[]], .slice (some ⟨b, o, none⟩) n cw] u (Tp u B r (readNet x.cg L)) := by
  by_cases hq : n = 1
  · subst hq
    match L, hn with
    | [l0], _ =>
      have z0 := hz l0 (by simp)
      have hS : Sc (u.alloc (.cells #[.int .i64 1, .func (.func 49) #[] #[]] 71)) B r E x := h.on ((Below.refl _ _).alloc (Nat.le_refl _) _)
      have hW : Wd (u.alloc (.cells #[.int .i64 1, .func (.func 49) #[] #[]] 71)) B b o [bs l0] := hw.on ((Below.refl _ _).alloc (Nat.le_refl _) _)
      have HR := Lib.hid (rv_net (cw := cw) hS hs hW (by omega))
      obtain ⟨O, hO⟩ : ∃ O, readNet x.cg [l0] = O := ⟨_, rfl⟩
      rw [hO] at HR ⊢
      have hCh : Ch B r u (u.alloc (.cells #[.int .i64 1, .func (.func 49) #[] #[]] 71)) := Ch.alloc _ _
      have HC := Lib.hid hCh
      clear h hs hw hz hS hW hO hCh z0
      go_enter Tryd.func27, Tryd.ntmps27
      go_wp2_with (first
        | (go_at_call 49; refine HR.out.mono ?_; rintro e u2 hrv; rcases rv_ways hrv with ⟨rfl, hno, hch⟩ | ⟨rfl, E', b0, b1, b2, b3, ts', A', c', hS', ho, hch⟩; all_goals (first | (have HV := Lib.hid hno; have HC2 := Lib.hid (HC.out.trans hch); clear hno hch hrv) | (have HS' := Lib.hid hS'; have HC2 := Lib.hid (HC.out.trans hch); have HRC := Lib.hid (right_cfg ⟨b0, b1, b2, b3, ts', A', c'⟩ u2 hS'.rc); have HOK := Lib.hid ho; have d0 : u2.cell? ⟨r, 0, none⟩ = some (.int .i64 b0) := hS'.blk.cell 0; have d1 : u2.cell? ⟨r, 1, none⟩ = some (.int .i64 b1) := hS'.blk.cell 1; have d2 : u2.cell? ⟨r, 2, none⟩ = some (.int .i64 b2) := hS'.blk.cell 2; have d3 : u2.cell? ⟨r, 3, none⟩ = some (.int .i64 b3) := hS'.blk.cell 3; have d4 : u2.cell? ⟨r, 4, none⟩ = some (.slice A' ts'.length c') := hS'.blk.cell 4; clear hS' ho hch hrv)))
        | (go_at_call 11; refine HRC.out.mono ?_; rintro e u3 ⟨rfl, hb3⟩; have HS3 := Lib.hid (HS'.out.on hb3); have HC3 := Lib.hid (HC2.out.trans (Ch.of hb3)); clear hb3))
      · go_ret
        exact ⟨⟨false, rfl, by rw [HV.out]; rfl, fun hh => by cases hh⟩, HC2.out⟩
      · go_ret
        refine ⟨⟨_, rfl, ?_, fun hh => ⟨E', _, HS3.out, ?_⟩⟩, HC3.out⟩
        · rw [HOK.out]
          unfold okC
          by_cases hc : cfgB (Cv.cg ⟨b0, b1, b2, b3, ts', A', c'⟩) = true
          · simp only [if_pos hc]; exact hc
          · simp only [if_neg hc]; exact Bool.eq_false_iff.2 hc
        · rw [HOK.out]
          have hc : cfgB (Cv.cg ⟨b0, b1, b2, b3, ts', A', c'⟩) = true := hh
          unfold okC
          simp only [if_pos hc]
  · have hne : ((n : Int) == 1) = false := by rw [beq_eq_false_iff_ne]; omega
    have HN := Lib.hid (mis_net (c := x.cg) (L := L) (by rw [hn]; exact hq))
    have HC := Lib.hid (show Ch B r u (u.alloc (.cells #[.int .i64 1, .func (.func 49) #[] #[]] 71)) from Ch.alloc _ _)
    clear h hs hw hz hn hq
    go_enter Tryd.func27, Tryd.ntmps27
    go_wp2_with fail
    go_ret
    exact ⟨⟨false, rfl, by rw [HN.out]; rfl, fun hh => by cases hh⟩, HC.out⟩

theorem mis_token {c : Cg} {L : List (List UInt8)} (h : L.length ≠ 3) : okC (readToken c L) = none := by
  match L, h with
  | [], _ => rfl
  | [_], _ => rfl
  | [_, _], _ => rfl
  | [_, _, _], h => exact absurd rfl h
  | _ :: _ :: _ :: _ :: _, _ => rfl
set_option maxRecDepth 100000 in
set_option maxHeartbeats 4000000 in
theorem take_token (u : World) (B r E : Nat) (x : Cv) (b o n cw : Nat) (L : List (List UInt8)) (h : Sc u B r E x) (hs : SmC x) (hw : Wd u B b o (L.map bs)) (hn : L.length = n) (hz : ∀ l ∈ L, l.length ≤ 4096) (hn9 : n ≤ 9223372036854775807) :
    Calls Tryd.prog 27 #[.pointer (some ⟨r, 0, none⟩), .agg #[.int .i64 3, .func (.func 50) #[] #[]], .slice (some ⟨b, o, none⟩) n cw] u (Tp u B r (readToken x.cg L)) := by
  by_cases hq : n = 3
  · subst hq
    match L, hn with
    | [l0, l1, l2], _ =>
      have z0 := hz l0 (by simp)
      have z1 := hz l1 (by simp)
      have z2 := hz l2 (by simp)
      have hS : Sc (u.alloc (.cells #[.int .i64 3, .func (.func 50) #[] #[]] 71)) B r E x := h.on ((Below.refl _ _).alloc (Nat.le_refl _) _)
      have hW : Wd (u.alloc (.cells #[.int .i64 3, .func (.func 50) #[] #[]] 71)) B b o [bs l0, bs l1, bs l2] := hw.on ((Below.refl _ _).alloc (Nat.le_refl _) _)
      have HR := Lib.hid (rv_tok (cw := cw) hS hs hW (by omega) (by omega) (by omega))
      obtain ⟨O, hO⟩ : ∃ O, readToken x.cg [l0, l1, l2] = O := ⟨_, rfl⟩
      rw [hO] at HR ⊢
      have hCh : Ch B r u (u.alloc (.cells #[.int .i64 3, .func (.func 50) #[] #[]] 71)) := Ch.alloc _ _
      have HC := Lib.hid hCh
      clear h hs hw hz hS hW hO hCh z0 z1 z2
      go_enter Tryd.func27, Tryd.ntmps27
      go_wp2_with (first
        | (go_at_call 50; refine HR.out.mono ?_; rintro e u2 hrv; rcases rv_ways hrv with ⟨rfl, hno, hch⟩ | ⟨rfl, E', b0, b1, b2, b3, ts', A', c', hS', ho, hch⟩; all_goals (first | (have HV := Lib.hid hno; have HC2 := Lib.hid (HC.out.trans hch); clear hno hch hrv) | (have HS' := Lib.hid hS'; have HC2 := Lib.hid (HC.out.trans hch); have HRC := Lib.hid (right_cfg ⟨b0, b1, b2, b3, ts', A', c'⟩ u2 hS'.rc); have HOK := Lib.hid ho; have d0 : u2.cell? ⟨r, 0, none⟩ = some (.int .i64 b0) := hS'.blk.cell 0; have d1 : u2.cell? ⟨r, 1, none⟩ = some (.int .i64 b1) := hS'.blk.cell 1; have d2 : u2.cell? ⟨r, 2, none⟩ = some (.int .i64 b2) := hS'.blk.cell 2; have d3 : u2.cell? ⟨r, 3, none⟩ = some (.int .i64 b3) := hS'.blk.cell 3; have d4 : u2.cell? ⟨r, 4, none⟩ = some (.slice A' ts'.length c') := hS'.blk.cell 4; clear hS' ho hch hrv)))
        | (go_at_call 11; refine HRC.out.mono ?_; rintro e u3 ⟨rfl, hb3⟩; have HS3 := Lib.hid (HS'.out.on hb3); have HC3 := Lib.hid (HC2.out.trans (Ch.of hb3)); clear hb3))
      · go_ret
        exact ⟨⟨false, rfl, by rw [HV.out]; rfl, fun hh => by cases hh⟩, HC2.out⟩
      · go_ret
        refine ⟨⟨_, rfl, ?_, fun hh => ⟨E', _, HS3.out, ?_⟩⟩, HC3.out⟩
        · rw [HOK.out]
          unfold okC
          by_cases hc : cfgB (Cv.cg ⟨b0, b1, b2, b3, ts', A', c'⟩) = true
          · simp only [if_pos hc]; exact hc
          · simp only [if_neg hc]; exact Bool.eq_false_iff.2 hc
        · rw [HOK.out]
          have hc : cfgB (Cv.cg ⟨b0, b1, b2, b3, ts', A', c'⟩) = true := hh
          unfold okC
          simp only [if_pos hc]
  · have hne : ((n : Int) == 3) = false := by rw [beq_eq_false_iff_ne]; omega
    have HN := Lib.hid (mis_token (c := x.cg) (L := L) (by rw [hn]; exact hq))
    have HC := Lib.hid (show Ch B r u (u.alloc (.cells #[.int .i64 3, .func (.func 50) #[] #[]] 71)) from Ch.alloc _ _)
    clear h hs hw hz hn hq
    go_enter Tryd.func27, Tryd.ntmps27
    go_wp2_with fail
    go_ret
    exact ⟨⟨false, rfl, by rw [HN.out]; rfl, fun hh => by cases hh⟩, HC.out⟩
end Go.Proofs.YtfpjkedcpnmfeaaDoor
