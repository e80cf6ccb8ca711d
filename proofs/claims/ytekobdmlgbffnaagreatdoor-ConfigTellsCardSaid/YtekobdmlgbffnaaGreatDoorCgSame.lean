/- The document's SameTenant, Same: of what is alike. (Written by gen_cgsm.py.) -/
import Derived.Test.YtekobdmlgbffnaaGreatDoorCgT2
import Derived.Test.YtekobdmlgbffnaaGreatDoorG4
namespace Go.Proofs.YtekobdmlgbffnaaGreatDoor
set_option linter.unusedVariables false
set_option maxRecDepth 100000
set_option linter.unusedSimpArgs false
open Go.RowKit

set_option maxRecDepth 100000 in
set_option maxHeartbeats 2000000 in
theorem nen_run (x : Nt) (p q : Operand) (w : World) : ((do eqGuard .neq 85 p q (.agg (ncs x)) (.agg (ncs x)); binOp .neq 85 (.agg (ncs x)) (.agg (ncs x))) : Sem Value).run Tryz.prog w = .ok (.bool false) w := by
  obtain ⟨a, b⟩ := x
  go_simp
set_option maxRecDepth 100000 in
set_option maxHeartbeats 2000000 in
theorem nek_run (x : Tk) (p q : Operand) (w : World) : ((do eqGuard .neq 37 p q (.agg (kcs x)) (.agg (kcs x)); binOp .neq 37 (.agg (kcs x)) (.agg (kcs x))) : Sem Value).run Tryz.prog w = .ok (.bool false) w := by
  obtain ⟨a, b, c⟩ := x
  go_simp
theorem yif_nen {ops : Array Oper} {S : World → Prop} {oi : Oper} {a : Act} (hw : Region.wanted oi (yielded ops a.tmps) = true) (p q : Operand) (d : TypeId) (ho : oi.op = .binOp .neq 85 p q d) (x : Nt) (hx : a.eval p = .agg (ncs x)) (hy : a.eval q = .agg (ncs x)) : YieldsIf Tryz.prog ops S oi (.bool false) a :=
  .inl ⟨hw, fun w hw' => by
    have h1 := nen_run x p q w
    unfold execOp
    simp only [ho, hx, hy]
    rw [Sem.run_bind, h1]
    rfl⟩
theorem yif_nek {ops : Array Oper} {S : World → Prop} {oi : Oper} {a : Act} (hw : Region.wanted oi (yielded ops a.tmps) = true) (p q : Operand) (d : TypeId) (ho : oi.op = .binOp .neq 37 p q d) (x : Tk) (hx : a.eval p = .agg (kcs x)) (hy : a.eval q = .agg (kcs x)) : YieldsIf Tryz.prog ops S oi (.bool false) a :=
  .inl ⟨hw, fun w hw' => by
    have h1 := nek_run x p q w
    unfold execOp
    simp only [ho, hx, hy]
    rw [Sem.run_bind, h1]
    rfl⟩

set_option maxRecDepth 100000 in
set_option maxHeartbeats 8000000 in
theorem same_t (y z : Tv) (w : World) (hy : RT1 w y) (hz : RT1 w z) (h : y.t = z.t) : Calls Tryz.prog 18 #[.agg (tcs y), .agg (tcs z)] w fun e w' => e = .returned (.bool true) ∧ Below w.heap.size w w' := by
  obtain ⟨⟨nm, a, b, nl, kl⟩, An, cn, Ak, ck⟩ := y
  obtain ⟨t, An', cn', Ak', ck'⟩ := z
  dsimp only at h
  subst h
  obtain ⟨x1, x2, x3, x4, _, _, _⟩ := hy
  obtain ⟨z1, z2, _, _, _, _, _⟩ := hz
  dsimp only at x1 x2 x3 x4 z1 z2
  have g3 := x3.cap
  have g4 := x3.max
  have g5 := x4.cap
  have g6 := x4.max
  have HN1 := Lib.hid x1
  have HN2 := Lib.hid z1
  have HK1 := Lib.hid x2
  have HK2 := Lib.hid z2
  simp only [tcs]
  obtain ⟨p, hp⟩ : ∃ p, nl.length = p := ⟨_, rfl⟩
  obtain ⟨q, hq⟩ : ∃ q, kl.length = q := ⟨_, rfl⟩
  rw [hp, hq]
  have hp9 : p ≤ 9223372036854775807 := by omega
  have hq9 : q ≤ 9223372036854775807 := by omega
  have HP := Lib.hid hp
  have HQ := Lib.hid hq
  have HX1 := Lib.hid (show Bx w w.heap.size 33 #[.string nm, .int .i64 a, .int .i64 b, .slice An p cn, .slice Ak q ck] ((w.alloc (.cells #[.string nm, .int .i64 a, .int .i64 b, .slice An p cn, .slice Ak q ck] 33)).alloc (.cells #[.string nm, .int .i64 a, .int .i64 b, .slice An' p cn', .slice Ak' q ck'] 33)) from (Bx.new w _ _).alloc1 _)
  have HX2 := Lib.hid (show Bx w (w.heap.size + 1) 33 #[.string nm, .int .i64 a, .int .i64 b, .slice An' p cn', .slice Ak' q ck'] ((w.alloc (.cells #[.string nm, .int .i64 a, .int .i64 b, .slice An p cn, .slice Ak q ck] 33)).alloc (.cells #[.string nm, .int .i64 a, .int .i64 b, .slice An' p cn', .slice Ak' q ck'] 33)) from ⟨by have := Bk.new (w.alloc (.cells #[.string nm, .int .i64 a, .int .i64 b, .slice An p cn, .slice Ak q ck] 33)) 33 #[.string nm, .int .i64 a, .int .i64 b, .slice An' p cn', .slice Ak' q ck']; rwa [World.size_alloc] at this, HX1.out.l⟩)
  clear hp hq x1 x2 x3 x4 z1 z2 g3 g4 g5 g6
  go_enter Tryz.func18, Tryz.ntmps18
  go_wp2
  obtain ⟨v0, hv0⟩ : ∃ v, (w.alloc (.cells #[.string nm, .int .i64 a, .int .i64 b, .slice An p cn, .slice Ak q ck] 33)).alloc (.cells #[.string nm, .int .i64 a, .int .i64 b, .slice An' p cn', .slice Ak' q ck'] 33) = v := ⟨_, rfl⟩
  rw [hv0] at HX1 HX2
  try rw [hv0]
  clear hv0
  go_loopw [5] (fun v5 wr => ∃ (i : Nat), i ≤ p ∧ v5 = .int .i64 (i : Int) ∧ Hid (Bx w w.heap.size 33 #[.string nm, .int .i64 a, .int .i64 b, .slice An p cn, .slice Ak q ck] wr) ∧ Hid (Bx w (w.heap.size + 1) 33 #[.string nm, .int .i64 a, .int .i64 b, .slice An' p cn', .slice Ak' q ck'] wr)) (fun v5 _ => p - (intOf v5).toNat)
  case atStart => exact ⟨0, by omega, rfl, HX1, HX2⟩
  case round =>
    obtain ⟨i, hi, rfl, HA, HB⟩ := hrel
    have e3 : wr.cell? ⟨w.heap.size, 3, none⟩ = some (.slice An p cn) := HA.out.b.cell 3
    by_cases hi1 : i < p
    · have hi2 : (i : Int) < (p : Int) := by omega
      obtain ⟨b1, o1, x, rfl, hx, hc1⟩ := HN1.out.at2 i (by rw [HP.out]; exact hi1)
      obtain ⟨b2, o2, x', rfl, hx', hc2⟩ := HN2.out.at2 i (by rw [HP.out]; exact hi1)
      obtain rfl : x = x' := by rw [hx] at hx'; injection hx'
      have HC1 := Lib.hid hc1
      have HC2 := Lib.hid hc2
      obtain ⟨xa, xb⟩ := x
      clear hx hx' hc1 hc2
      go_upto_region 6 with fail
      try simp only [List.cons_append, List.nil_append]
      refine wp_region_held_drew (S := fun wz => Below wr.heap.size wr wz) (by kernel_rfl) ((Below.refl _ _).drew) (fun hHeld => ?_)
      refine tk (some 51) 0 (v := ?_) rfl rfl ?_ hHeld ?_
      rotate_left
      · intro wz hSw; have hba := HA.out.on hSw; have hbb := HB.out.on hSw; have k1 : wz.cell? ⟨w.heap.size, 3, none⟩ = some (.slice (some ⟨b1, o1, none⟩) p cn) := hba.b.cell 3; have k2 : wz.cell? ⟨w.heap.size + 1, 3, none⟩ = some (.slice (some ⟨b2, o2, none⟩) p cn') := hbb.b.cell 3; have k3 := HC1.out wz hba.l; have k4 := HC2.out wz hbb.l; dsimp only at k3 k4; obtain ⟨m0, m1⟩ := k3; obtain ⟨l0, l1⟩ := k4; go_simp; try (with_reducible rfl)
      try simp only [lay]
      refine tk (some 52) 1 (v := ?_) rfl rfl ?_ hHeld ?_
      rotate_left
      · intro wz hSw; have hba := HA.out.on hSw; have hbb := HB.out.on hSw; have k1 : wz.cell? ⟨w.heap.size, 3, none⟩ = some (.slice (some ⟨b1, o1, none⟩) p cn) := hba.b.cell 3; have k2 : wz.cell? ⟨w.heap.size + 1, 3, none⟩ = some (.slice (some ⟨b2, o2, none⟩) p cn') := hbb.b.cell 3; have k3 := HC1.out wz hba.l; have k4 := HC2.out wz hbb.l; dsimp only at k3 k4; obtain ⟨m0, m1⟩ := k3; obtain ⟨l0, l1⟩ := k4; go_simp; try (with_reducible rfl)
      try simp only [lay]
      refine tk (some 53) 2 (v := ?_) rfl rfl ?_ hHeld ?_
      rotate_left
      · intro wz hSw; have hba := HA.out.on hSw; have hbb := HB.out.on hSw; have k1 : wz.cell? ⟨w.heap.size, 3, none⟩ = some (.slice (some ⟨b1, o1, none⟩) p cn) := hba.b.cell 3; have k2 : wz.cell? ⟨w.heap.size + 1, 3, none⟩ = some (.slice (some ⟨b2, o2, none⟩) p cn') := hbb.b.cell 3; have k3 := HC1.out wz hba.l; have k4 := HC2.out wz hbb.l; dsimp only at k3 k4; obtain ⟨m0, m1⟩ := k3; obtain ⟨l0, l1⟩ := k4; go_simp; try (with_reducible rfl)
      try simp only [lay]
      refine tk (some 54) 3 (v := ?_) rfl rfl ?_ hHeld ?_
      rotate_left
      · intro wz hSw; have hba := HA.out.on hSw; have hbb := HB.out.on hSw; have k1 : wz.cell? ⟨w.heap.size, 3, none⟩ = some (.slice (some ⟨b1, o1, none⟩) p cn) := hba.b.cell 3; have k2 : wz.cell? ⟨w.heap.size + 1, 3, none⟩ = some (.slice (some ⟨b2, o2, none⟩) p cn') := hbb.b.cell 3; have k3 := HC1.out wz hba.l; have k4 := HC2.out wz hbb.l; dsimp only at k3 k4; obtain ⟨m0, m1⟩ := k3; obtain ⟨l0, l1⟩ := k4; go_simp; try (with_reducible rfl)
      try simp only [lay]
      refine tk (some 55) 4 (v := ?_) rfl rfl ?_ hHeld ?_
      rotate_left
      · intro wz hSw; have hba := HA.out.on hSw; have hbb := HB.out.on hSw; have k1 : wz.cell? ⟨w.heap.size, 3, none⟩ = some (.slice (some ⟨b1, o1, none⟩) p cn) := hba.b.cell 3; have k2 : wz.cell? ⟨w.heap.size + 1, 3, none⟩ = some (.slice (some ⟨b2, o2, none⟩) p cn') := hbb.b.cell 3; have k3 := HC1.out wz hba.l; have k4 := HC2.out wz hbb.l; dsimp only at k3 k4; obtain ⟨m0, m1⟩ := k3; obtain ⟨l0, l1⟩ := k4; go_simp; try (with_reducible rfl)
      try simp only [lay]
      refine tk (some 56) 5 (v := ?_) rfl rfl ?_ hHeld ?_
      rotate_left
      · intro wz hSw; have hba := HA.out.on hSw; have hbb := HB.out.on hSw; have k1 : wz.cell? ⟨w.heap.size, 3, none⟩ = some (.slice (some ⟨b1, o1, none⟩) p cn) := hba.b.cell 3; have k2 : wz.cell? ⟨w.heap.size + 1, 3, none⟩ = some (.slice (some ⟨b2, o2, none⟩) p cn') := hbb.b.cell 3; have k3 := HC1.out wz hba.l; have k4 := HC2.out wz hbb.l; dsimp only at k3 k4; obtain ⟨m0, m1⟩ := k3; obtain ⟨l0, l1⟩ := k4; go_simp; try (with_reducible rfl)
      try simp only [lay]
      refine tk (some 57) 6 (v := ?_) rfl rfl ?_ hHeld ?_
      rotate_left
      · intro wz hSw; have hba := HA.out.on hSw; have hbb := HB.out.on hSw; have k1 : wz.cell? ⟨w.heap.size, 3, none⟩ = some (.slice (some ⟨b1, o1, none⟩) p cn) := hba.b.cell 3; have k2 : wz.cell? ⟨w.heap.size + 1, 3, none⟩ = some (.slice (some ⟨b2, o2, none⟩) p cn') := hbb.b.cell 3; have k3 := HC1.out wz hba.l; have k4 := HC2.out wz hbb.l; dsimp only at k3 k4; obtain ⟨m0, m1⟩ := k3; obtain ⟨l0, l1⟩ := k4; go_simp; try (with_reducible rfl)
      try simp only [lay]
      refine tk (some 58) 7 (v := ?_) rfl rfl ?_ hHeld ?_
      rotate_left
      · intro wz hSw; have hba := HA.out.on hSw; have hbb := HB.out.on hSw; have k1 : wz.cell? ⟨w.heap.size, 3, none⟩ = some (.slice (some ⟨b1, o1, none⟩) p cn) := hba.b.cell 3; have k2 : wz.cell? ⟨w.heap.size + 1, 3, none⟩ = some (.slice (some ⟨b2, o2, none⟩) p cn') := hbb.b.cell 3; have k3 := HC1.out wz hba.l; have k4 := HC2.out wz hbb.l; dsimp only at k3 k4; obtain ⟨m0, m1⟩ := k3; obtain ⟨l0, l1⟩ := k4; go_simp; try (with_reducible rfl)
      try simp only [lay]
      refine tk (some 59) 8 (v := ?_) rfl rfl ?_ hHeld ?_
      rotate_left
      · intro wz hSw; have hba := HA.out.on hSw; have hbb := HB.out.on hSw; have k1 : wz.cell? ⟨w.heap.size, 3, none⟩ = some (.slice (some ⟨b1, o1, none⟩) p cn) := hba.b.cell 3; have k2 : wz.cell? ⟨w.heap.size + 1, 3, none⟩ = some (.slice (some ⟨b2, o2, none⟩) p cn') := hbb.b.cell 3; have k3 := HC1.out wz hba.l; have k4 := HC2.out wz hbb.l; dsimp only at k3 k4; obtain ⟨m0, m1⟩ := k3; obtain ⟨l0, l1⟩ := k4; go_simp; try (with_reducible rfl)
      try simp only [lay]
      refine tk (some 60) 9 (v := ?_) rfl rfl ?_ hHeld ?_
      rotate_left
      · intro wz hSw; have hba := HA.out.on hSw; have hbb := HB.out.on hSw; have k1 : wz.cell? ⟨w.heap.size, 3, none⟩ = some (.slice (some ⟨b1, o1, none⟩) p cn) := hba.b.cell 3; have k2 : wz.cell? ⟨w.heap.size + 1, 3, none⟩ = some (.slice (some ⟨b2, o2, none⟩) p cn') := hbb.b.cell 3; have k3 := HC1.out wz hba.l; have k4 := HC2.out wz hbb.l; dsimp only at k3 k4; obtain ⟨m0, m1⟩ := k3; obtain ⟨l0, l1⟩ := k4; go_simp; try (with_reducible rfl)
      try simp only [lay]
      refine take_at (some 61) (i := 10) rfl rfl (by kernel_rfl) (by kernel_rfl) (by kernel_rfl) (fun _ _ _ h => h) (yif_nen (by kernel_rfl) (.tmp 55) (.tmp 60) _ rfl ⟨xa, xb⟩ rfl rfl) hHeld ?_
      try simp only [lay]
      refine wpAnyH_done (by kernel_rfl) ?_ _
      clear hHeld
      go_wp2
      go_roundw
      case rel => exact ⟨i + 1, by omega, by go_num, Lib.hid HA.out.drew, Lib.hid HB.out.drew⟩
      case measure => simp [intOf]; omega
    · have hi2 : ¬ (i : Int) < (p : Int) := by omega
      go_wp2
      clear e3
      go_loopw [6] (fun v6 wr => ∃ (i : Nat), i ≤ q ∧ v6 = .int .i64 (i : Int) ∧ Hid (Bx w w.heap.size 33 #[.string nm, .int .i64 a, .int .i64 b, .slice An p cn, .slice Ak q ck] wr) ∧ Hid (Bx w (w.heap.size + 1) 33 #[.string nm, .int .i64 a, .int .i64 b, .slice An' p cn', .slice Ak' q ck'] wr)) (fun v6 _ => q - (intOf v6).toNat)
      case atStart => exact ⟨0, by omega, rfl, HA, HB⟩
      case round =>
        obtain ⟨k, hk, rfl, HA2, HB2⟩ := hrel
        have e4 : wr.cell? ⟨w.heap.size, 4, none⟩ = some (.slice Ak q ck) := HA2.out.b.cell 4
        by_cases hk1 : k < q
        · have hk2 : (k : Int) < (q : Int) := by omega
          obtain ⟨b1, o1, x, rfl, hx, hc1⟩ := HK1.out.at3 k (by rw [HQ.out]; exact hk1)
          obtain ⟨b2, o2, x', rfl, hx', hc2⟩ := HK2.out.at3 k (by rw [HQ.out]; exact hk1)
          obtain rfl : x = x' := by rw [hx] at hx'; injection hx'
          have HC1 := Lib.hid hc1
          have HC2 := Lib.hid hc2
          obtain ⟨xa, xb, xc⟩ := x
          clear hx hx' hc1 hc2
          go_upto_region 11 with fail
          try simp only [List.cons_append, List.nil_append]
          refine wp_region_held_drew (S := fun wz => Below wr.heap.size wr wz) (by kernel_rfl) ((Below.refl _ _).drew) (fun hHeld => ?_)
          refine tk (some 69) 0 (v := ?_) rfl rfl ?_ hHeld ?_
          rotate_left
          · intro wz hSw; have hba := HA2.out.on hSw; have hbb := HB2.out.on hSw; have k1 : wz.cell? ⟨w.heap.size, 4, none⟩ = some (.slice (some ⟨b1, o1, none⟩) q ck) := hba.b.cell 4; have k2 : wz.cell? ⟨w.heap.size + 1, 4, none⟩ = some (.slice (some ⟨b2, o2, none⟩) q ck') := hbb.b.cell 4; have k3 := HC1.out wz hba.l; have k4 := HC2.out wz hbb.l; dsimp only at k3 k4; obtain ⟨m0, m1, m2⟩ := k3; obtain ⟨l0, l1, l2⟩ := k4; go_simp; try (with_reducible rfl)
          try simp only [lay]
          refine tk (some 70) 1 (v := ?_) rfl rfl ?_ hHeld ?_
          rotate_left
          · intro wz hSw; have hba := HA2.out.on hSw; have hbb := HB2.out.on hSw; have k1 : wz.cell? ⟨w.heap.size, 4, none⟩ = some (.slice (some ⟨b1, o1, none⟩) q ck) := hba.b.cell 4; have k2 : wz.cell? ⟨w.heap.size + 1, 4, none⟩ = some (.slice (some ⟨b2, o2, none⟩) q ck') := hbb.b.cell 4; have k3 := HC1.out wz hba.l; have k4 := HC2.out wz hbb.l; dsimp only at k3 k4; obtain ⟨m0, m1, m2⟩ := k3; obtain ⟨l0, l1, l2⟩ := k4; go_simp; try (with_reducible rfl)
          try simp only [lay]
          refine tk (some 71) 2 (v := ?_) rfl rfl ?_ hHeld ?_
          rotate_left
          · intro wz hSw; have hba := HA2.out.on hSw; have hbb := HB2.out.on hSw; have k1 : wz.cell? ⟨w.heap.size, 4, none⟩ = some (.slice (some ⟨b1, o1, none⟩) q ck) := hba.b.cell 4; have k2 : wz.cell? ⟨w.heap.size + 1, 4, none⟩ = some (.slice (some ⟨b2, o2, none⟩) q ck') := hbb.b.cell 4; have k3 := HC1.out wz hba.l; have k4 := HC2.out wz hbb.l; dsimp only at k3 k4; obtain ⟨m0, m1, m2⟩ := k3; obtain ⟨l0, l1, l2⟩ := k4; go_simp; try (with_reducible rfl)
          try simp only [lay]
          refine tk (some 72) 3 (v := ?_) rfl rfl ?_ hHeld ?_
          rotate_left
          · intro wz hSw; have hba := HA2.out.on hSw; have hbb := HB2.out.on hSw; have k1 : wz.cell? ⟨w.heap.size, 4, none⟩ = some (.slice (some ⟨b1, o1, none⟩) q ck) := hba.b.cell 4; have k2 : wz.cell? ⟨w.heap.size + 1, 4, none⟩ = some (.slice (some ⟨b2, o2, none⟩) q ck') := hbb.b.cell 4; have k3 := HC1.out wz hba.l; have k4 := HC2.out wz hbb.l; dsimp only at k3 k4; obtain ⟨m0, m1, m2⟩ := k3; obtain ⟨l0, l1, l2⟩ := k4; go_simp; try (with_reducible rfl)
          try simp only [lay]
          refine tk (some 73) 4 (v := ?_) rfl rfl ?_ hHeld ?_
          rotate_left
          · intro wz hSw; have hba := HA2.out.on hSw; have hbb := HB2.out.on hSw; have k1 : wz.cell? ⟨w.heap.size, 4, none⟩ = some (.slice (some ⟨b1, o1, none⟩) q ck) := hba.b.cell 4; have k2 : wz.cell? ⟨w.heap.size + 1, 4, none⟩ = some (.slice (some ⟨b2, o2, none⟩) q ck') := hbb.b.cell 4; have k3 := HC1.out wz hba.l; have k4 := HC2.out wz hbb.l; dsimp only at k3 k4; obtain ⟨m0, m1, m2⟩ := k3; obtain ⟨l0, l1, l2⟩ := k4; go_simp; try (with_reducible rfl)
          try simp only [lay]
          refine tk (some 74) 5 (v := ?_) rfl rfl ?_ hHeld ?_
          rotate_left
          · intro wz hSw; have hba := HA2.out.on hSw; have hbb := HB2.out.on hSw; have k1 : wz.cell? ⟨w.heap.size, 4, none⟩ = some (.slice (some ⟨b1, o1, none⟩) q ck) := hba.b.cell 4; have k2 : wz.cell? ⟨w.heap.size + 1, 4, none⟩ = some (.slice (some ⟨b2, o2, none⟩) q ck') := hbb.b.cell 4; have k3 := HC1.out wz hba.l; have k4 := HC2.out wz hbb.l; dsimp only at k3 k4; obtain ⟨m0, m1, m2⟩ := k3; obtain ⟨l0, l1, l2⟩ := k4; go_simp; try (with_reducible rfl)
          try simp only [lay]
          refine tk (some 75) 6 (v := ?_) rfl rfl ?_ hHeld ?_
          rotate_left
          · intro wz hSw; have hba := HA2.out.on hSw; have hbb := HB2.out.on hSw; have k1 : wz.cell? ⟨w.heap.size, 4, none⟩ = some (.slice (some ⟨b1, o1, none⟩) q ck) := hba.b.cell 4; have k2 : wz.cell? ⟨w.heap.size + 1, 4, none⟩ = some (.slice (some ⟨b2, o2, none⟩) q ck') := hbb.b.cell 4; have k3 := HC1.out wz hba.l; have k4 := HC2.out wz hbb.l; dsimp only at k3 k4; obtain ⟨m0, m1, m2⟩ := k3; obtain ⟨l0, l1, l2⟩ := k4; go_simp; try (with_reducible rfl)
          try simp only [lay]
          refine tk (some 76) 7 (v := ?_) rfl rfl ?_ hHeld ?_
          rotate_left
          · intro wz hSw; have hba := HA2.out.on hSw; have hbb := HB2.out.on hSw; have k1 : wz.cell? ⟨w.heap.size, 4, none⟩ = some (.slice (some ⟨b1, o1, none⟩) q ck) := hba.b.cell 4; have k2 : wz.cell? ⟨w.heap.size + 1, 4, none⟩ = some (.slice (some ⟨b2, o2, none⟩) q ck') := hbb.b.cell 4; have k3 := HC1.out wz hba.l; have k4 := HC2.out wz hbb.l; dsimp only at k3 k4; obtain ⟨m0, m1, m2⟩ := k3; obtain ⟨l0, l1, l2⟩ := k4; go_simp; try (with_reducible rfl)
          try simp only [lay]
          refine tk (some 77) 8 (v := ?_) rfl rfl ?_ hHeld ?_
          rotate_left
          · intro wz hSw; have hba := HA2.out.on hSw; have hbb := HB2.out.on hSw; have k1 : wz.cell? ⟨w.heap.size, 4, none⟩ = some (.slice (some ⟨b1, o1, none⟩) q ck) := hba.b.cell 4; have k2 : wz.cell? ⟨w.heap.size + 1, 4, none⟩ = some (.slice (some ⟨b2, o2, none⟩) q ck') := hbb.b.cell 4; have k3 := HC1.out wz hba.l; have k4 := HC2.out wz hbb.l; dsimp only at k3 k4; obtain ⟨m0, m1, m2⟩ := k3; obtain ⟨l0, l1, l2⟩ := k4; go_simp; try (with_reducible rfl)
          try simp only [lay]
          refine tk (some 78) 9 (v := ?_) rfl rfl ?_ hHeld ?_
          rotate_left
          · intro wz hSw; have hba := HA2.out.on hSw; have hbb := HB2.out.on hSw; have k1 : wz.cell? ⟨w.heap.size, 4, none⟩ = some (.slice (some ⟨b1, o1, none⟩) q ck) := hba.b.cell 4; have k2 : wz.cell? ⟨w.heap.size + 1, 4, none⟩ = some (.slice (some ⟨b2, o2, none⟩) q ck') := hbb.b.cell 4; have k3 := HC1.out wz hba.l; have k4 := HC2.out wz hbb.l; dsimp only at k3 k4; obtain ⟨m0, m1, m2⟩ := k3; obtain ⟨l0, l1, l2⟩ := k4; go_simp; try (with_reducible rfl)
          try simp only [lay]
          refine take_at (some 79) (i := 10) rfl rfl (by kernel_rfl) (by kernel_rfl) (by kernel_rfl) (fun _ _ _ h => h) (yif_nek (by kernel_rfl) (.tmp 73) (.tmp 78) _ rfl ⟨xa, xb, xc⟩ rfl rfl) hHeld ?_
          try simp only [lay]
          refine wpAnyH_done (by kernel_rfl) ?_ _
          clear hHeld
          go_wp2
          go_roundw
          case rel => exact ⟨k + 1, by omega, by go_num, Lib.hid HA2.out.drew, Lib.hid HB2.out.drew⟩
          case measure => simp [intOf]; omega
        · have hk2 : ¬ (k : Int) < (q : Int) := by omega
          go_wp2
          go_ret
          exact ⟨rfl, HA2.out.l⟩

set_option maxRecDepth 100000 in
set_option maxHeartbeats 8000000 in
theorem same_c (x y : Cv) (w : World) (hx : RC w x) (hy : RC w y) (h : x.cg = y.cg) : Calls Tryz.prog 17 #[.agg (ccs x), .agg (ccs y)] w fun e w' => e = .returned (.bool true) ∧ Below w.heap.size w w' := by
  obtain ⟨a0, a1, a2, a3, ts, A, c⟩ := x
  obtain ⟨d0, d1, d2, d3, us, D, d⟩ := y
  unfold Cv.cg at h
  injection h with h0 h1 h2 h3 h4
  dsimp only at h0 h1 h2 h3 h4
  subst h0; subst h1; subst h2; subst h3
  have HR1 := Lib.hid hx.r
  have HR2 := Lib.hid hy.r
  have g1 := hx.f.cap
  have g2 := hx.f.max
  dsimp only at g1 g2
  obtain ⟨n, hn⟩ : ∃ n, ts.length = n := ⟨_, rfl⟩
  have hn' : us.length = n := by rw [← hn]; have := congrArg List.length h4; simpa using this.symm
  have HN := Lib.hid hn
  have HN' := Lib.hid hn'
  have HT := Lib.hid h4
  simp only [ccs, hn, hn']
  have hn9 : n ≤ 9223372036854775807 := by omega
  have HX1 := Lib.hid (show Bx w w.heap.size 24 #[.int .i64 a0, .int .i64 a1, .int .i64 a2, .int .i64 a3, .slice A n c] ((w.alloc (.cells #[.int .i64 a0, .int .i64 a1, .int .i64 a2, .int .i64 a3, .slice A n c] 24)).alloc (.cells #[.int .i64 a0, .int .i64 a1, .int .i64 a2, .int .i64 a3, .slice D n d] 24)) from (Bx.new w _ _).alloc1 _)
  have HX2 := Lib.hid (show Bx w (w.heap.size + 1) 24 #[.int .i64 a0, .int .i64 a1, .int .i64 a2, .int .i64 a3, .slice D n d] ((w.alloc (.cells #[.int .i64 a0, .int .i64 a1, .int .i64 a2, .int .i64 a3, .slice A n c] 24)).alloc (.cells #[.int .i64 a0, .int .i64 a1, .int .i64 a2, .int .i64 a3, .slice D n d] 24)) from ⟨by have := Bk.new (w.alloc (.cells #[.int .i64 a0, .int .i64 a1, .int .i64 a2, .int .i64 a3, .slice A n c] 24)) 24 #[.int .i64 a0, .int .i64 a1, .int .i64 a2, .int .i64 a3, .slice D n d]; rwa [World.size_alloc] at this, HX1.out.l⟩)
  clear hx hy hn hn' g1 g2 h4
  go_enter Tryz.func17, Tryz.ntmps17
  go_wp2
  obtain ⟨v0, hv0⟩ : ∃ v, (w.alloc (.cells #[.int .i64 a0, .int .i64 a1, .int .i64 a2, .int .i64 a3, .slice A n c] 24)).alloc (.cells #[.int .i64 a0, .int .i64 a1, .int .i64 a2, .int .i64 a3, .slice D n d] 24) = v := ⟨_, rfl⟩
  rw [hv0] at HX1 HX2
  try rw [hv0]
  clear hv0
  go_loopw [5] (fun v5 wr => ∃ (i : Nat), i ≤ n ∧ v5 = .int .i64 (i : Int) ∧ Hid (Bx w w.heap.size 24 #[.int .i64 a0, .int .i64 a1, .int .i64 a2, .int .i64 a3, .slice A n c] wr) ∧ Hid (Bx w (w.heap.size + 1) 24 #[.int .i64 a0, .int .i64 a1, .int .i64 a2, .int .i64 a3, .slice D n d] wr)) (fun v5 _ => n - (intOf v5).toNat)
  case atStart => exact ⟨0, by omega, rfl, HX1, HX2⟩
  case round =>
    obtain ⟨i, hi, rfl, HA, HB⟩ := hrel
    have e4 : wr.cell? ⟨w.heap.size, 4, none⟩ = some (.slice A n c) := HA.out.b.cell 4
    by_cases hi1 : i < n
    · have hi2 : (i : Int) < (n : Int) := by omega
      obtain ⟨b1, o1, y1, rfl, hy1, r1, hc1⟩ := HR1.out.at5 i (by rw [HN.out]; exact hi1)
      obtain ⟨b2, o2, y2, rfl, hy2, r2, hc2⟩ := HR2.out.at5 i (by rw [HN'.out]; exact hi1)
      have heq : y1.t = y2.t := by
        have h1 : (ts.map (·.t))[i]? = some y1.t := by rw [List.getElem?_map, hy1]; rfl
        have h2 : (us.map (·.t))[i]? = some y2.t := by rw [List.getElem?_map, hy2]; rfl
        rw [HT.out] at h1
        rw [h1] at h2
        injection h2
      have HSM := Lib.hid (fun u (hu : Below w.heap.size w u) => same_t y1 y2 u (r1.on hu) (r2.on hu) heq)
      have HC1 := Lib.hid hc1
      have HC2 := Lib.hid hc2
      obtain ⟨⟨n1, p1, q1, nl1, kl1⟩, An1, cn1, Ak1, ck1⟩ := y1
      obtain ⟨⟨n2, p2, q2, nl2, kl2⟩, An2, cn2, Ak2, ck2⟩ := y2
      simp only [tcs] at HSM
      clear hy1 hy2 r1 r2 hc1 hc2 heq
      go_upto_region 6 with fail
      try simp only [List.cons_append, List.nil_append]
      refine wp_region_held_drew (S := fun wz => Below wr.heap.size wr wz) (by kernel_rfl) ((Below.refl _ _).drew) (fun hHeld => ?_)
      refine tk (some 48) 0 (v := ?_) rfl rfl ?_ hHeld ?_
      rotate_left
      · intro wz hSw; have hba := HA.out.on hSw; have hbb := HB.out.on hSw; have k1 : wz.cell? ⟨w.heap.size, 4, none⟩ = some (.slice (some ⟨b1, o1, none⟩) n c) := hba.b.cell 4; have k2 : wz.cell? ⟨w.heap.size + 1, 4, none⟩ = some (.slice (some ⟨b2, o2, none⟩) n d) := hbb.b.cell 4; have k3 := HC1.out wz hba.l; have k4 := HC2.out wz hbb.l; dsimp only at k3 k4; obtain ⟨m0, m1, m2, m3, m4⟩ := k3; obtain ⟨l0, l1, l2, l3, l4⟩ := k4; go_simp; try (with_reducible rfl)
      try simp only [lay]
      refine tk (some 49) 1 (v := ?_) rfl rfl ?_ hHeld ?_
      rotate_left
      · intro wz hSw; have hba := HA.out.on hSw; have hbb := HB.out.on hSw; have k1 : wz.cell? ⟨w.heap.size, 4, none⟩ = some (.slice (some ⟨b1, o1, none⟩) n c) := hba.b.cell 4; have k2 : wz.cell? ⟨w.heap.size + 1, 4, none⟩ = some (.slice (some ⟨b2, o2, none⟩) n d) := hbb.b.cell 4; have k3 := HC1.out wz hba.l; have k4 := HC2.out wz hbb.l; dsimp only at k3 k4; obtain ⟨m0, m1, m2, m3, m4⟩ := k3; obtain ⟨l0, l1, l2, l3, l4⟩ := k4; go_simp; try (with_reducible rfl)
      try simp only [lay]
      refine tk (some 50) 2 (v := ?_) rfl rfl ?_ hHeld ?_
      rotate_left
      · intro wz hSw; have hba := HA.out.on hSw; have hbb := HB.out.on hSw; have k1 : wz.cell? ⟨w.heap.size, 4, none⟩ = some (.slice (some ⟨b1, o1, none⟩) n c) := hba.b.cell 4; have k2 : wz.cell? ⟨w.heap.size + 1, 4, none⟩ = some (.slice (some ⟨b2, o2, none⟩) n d) := hbb.b.cell 4; have k3 := HC1.out wz hba.l; have k4 := HC2.out wz hbb.l; dsimp only at k3 k4; obtain ⟨m0, m1, m2, m3, m4⟩ := k3; obtain ⟨l0, l1, l2, l3, l4⟩ := k4; go_simp; try (with_reducible rfl)
      try simp only [lay]
      refine tk (some 51) 3 (v := ?_) rfl rfl ?_ hHeld ?_
      rotate_left
      · intro wz hSw; have hba := HA.out.on hSw; have hbb := HB.out.on hSw; have k1 : wz.cell? ⟨w.heap.size, 4, none⟩ = some (.slice (some ⟨b1, o1, none⟩) n c) := hba.b.cell 4; have k2 : wz.cell? ⟨w.heap.size + 1, 4, none⟩ = some (.slice (some ⟨b2, o2, none⟩) n d) := hbb.b.cell 4; have k3 := HC1.out wz hba.l; have k4 := HC2.out wz hbb.l; dsimp only at k3 k4; obtain ⟨m0, m1, m2, m3, m4⟩ := k3; obtain ⟨l0, l1, l2, l3, l4⟩ := k4; go_simp; try (with_reducible rfl)
      try simp only [lay]
      refine tk (some 52) 4 (v := ?_) rfl rfl ?_ hHeld ?_
      rotate_left
      · intro wz hSw; have hba := HA.out.on hSw; have hbb := HB.out.on hSw; have k1 : wz.cell? ⟨w.heap.size, 4, none⟩ = some (.slice (some ⟨b1, o1, none⟩) n c) := hba.b.cell 4; have k2 : wz.cell? ⟨w.heap.size + 1, 4, none⟩ = some (.slice (some ⟨b2, o2, none⟩) n d) := hbb.b.cell 4; have k3 := HC1.out wz hba.l; have k4 := HC2.out wz hbb.l; dsimp only at k3 k4; obtain ⟨m0, m1, m2, m3, m4⟩ := k3; obtain ⟨l0, l1, l2, l3, l4⟩ := k4; go_simp; try (with_reducible rfl)
      try simp only [lay]
      refine tk (some 53) 5 (v := ?_) rfl rfl ?_ hHeld ?_
      rotate_left
      · intro wz hSw; have hba := HA.out.on hSw; have hbb := HB.out.on hSw; have k1 : wz.cell? ⟨w.heap.size, 4, none⟩ = some (.slice (some ⟨b1, o1, none⟩) n c) := hba.b.cell 4; have k2 : wz.cell? ⟨w.heap.size + 1, 4, none⟩ = some (.slice (some ⟨b2, o2, none⟩) n d) := hbb.b.cell 4; have k3 := HC1.out wz hba.l; have k4 := HC2.out wz hbb.l; dsimp only at k3 k4; obtain ⟨m0, m1, m2, m3, m4⟩ := k3; obtain ⟨l0, l1, l2, l3, l4⟩ := k4; go_simp; try (with_reducible rfl)
      try simp only [lay]
      refine tk (some 54) 6 (v := ?_) rfl rfl ?_ hHeld ?_
      rotate_left
      · intro wz hSw; have hba := HA.out.on hSw; have hbb := HB.out.on hSw; have k1 : wz.cell? ⟨w.heap.size, 4, none⟩ = some (.slice (some ⟨b1, o1, none⟩) n c) := hba.b.cell 4; have k2 : wz.cell? ⟨w.heap.size + 1, 4, none⟩ = some (.slice (some ⟨b2, o2, none⟩) n d) := hbb.b.cell 4; have k3 := HC1.out wz hba.l; have k4 := HC2.out wz hbb.l; dsimp only at k3 k4; obtain ⟨m0, m1, m2, m3, m4⟩ := k3; obtain ⟨l0, l1, l2, l3, l4⟩ := k4; go_simp; try (with_reducible rfl)
      try simp only [lay]
      refine tk (some 55) 7 (v := ?_) rfl rfl ?_ hHeld ?_
      rotate_left
      · intro wz hSw; have hba := HA.out.on hSw; have hbb := HB.out.on hSw; have k1 : wz.cell? ⟨w.heap.size, 4, none⟩ = some (.slice (some ⟨b1, o1, none⟩) n c) := hba.b.cell 4; have k2 : wz.cell? ⟨w.heap.size + 1, 4, none⟩ = some (.slice (some ⟨b2, o2, none⟩) n d) := hbb.b.cell 4; have k3 := HC1.out wz hba.l; have k4 := HC2.out wz hbb.l; dsimp only at k3 k4; obtain ⟨m0, m1, m2, m3, m4⟩ := k3; obtain ⟨l0, l1, l2, l3, l4⟩ := k4; go_simp; try (with_reducible rfl)
      try simp only [lay]
      refine tk (some 56) 8 (v := ?_) rfl rfl ?_ hHeld ?_
      rotate_left
      · intro wz hSw; have hba := HA.out.on hSw; have hbb := HB.out.on hSw; have k1 : wz.cell? ⟨w.heap.size, 4, none⟩ = some (.slice (some ⟨b1, o1, none⟩) n c) := hba.b.cell 4; have k2 : wz.cell? ⟨w.heap.size + 1, 4, none⟩ = some (.slice (some ⟨b2, o2, none⟩) n d) := hbb.b.cell 4; have k3 := HC1.out wz hba.l; have k4 := HC2.out wz hbb.l; dsimp only at k3 k4; obtain ⟨m0, m1, m2, m3, m4⟩ := k3; obtain ⟨l0, l1, l2, l3, l4⟩ := k4; go_simp; try (with_reducible rfl)
      try simp only [lay]
      refine tk (some 57) 9 (v := ?_) rfl rfl ?_ hHeld ?_
      rotate_left
      · intro wz hSw; have hba := HA.out.on hSw; have hbb := HB.out.on hSw; have k1 : wz.cell? ⟨w.heap.size, 4, none⟩ = some (.slice (some ⟨b1, o1, none⟩) n c) := hba.b.cell 4; have k2 : wz.cell? ⟨w.heap.size + 1, 4, none⟩ = some (.slice (some ⟨b2, o2, none⟩) n d) := hbb.b.cell 4; have k3 := HC1.out wz hba.l; have k4 := HC2.out wz hbb.l; dsimp only at k3 k4; obtain ⟨m0, m1, m2, m3, m4⟩ := k3; obtain ⟨l0, l1, l2, l3, l4⟩ := k4; go_simp; try (with_reducible rfl)
      try simp only [lay]
      refine wpAnyH_ready (rs := [10]) (by kernel_rfl) (by simp) (AllReadyH.cons rfl (fun K hK => ?_) AllReadyH.nil)
      rw [if_pos (by kernel_rfl)]
      go_simp
      refine (HSM.out _ HA.out.drew.l).mono ?_
      rintro e u1 ⟨rfl, hb⟩
      try dsimp only
      have HA9 := Lib.hid (HA.out.drew.on hb)
      have HB9 := Lib.hid (HB.out.drew.on hb)
      have hbl := (Below.refl wr.heap.size wr).drew.trans (hb.mono (Nat.le_refl _))
      clear hb
      refine hK.out _ _ hbl (fun hHeld => ?_)
      try simp only [lay]
      refine tk (some 59) 11 (v := ?_) rfl rfl ?_ hHeld ?_
      rotate_left
      · intro wz hSw; go_simp; try (with_reducible rfl)
      try simp only [lay]
      refine wpAnyH_done (by kernel_rfl) ?_ _
      clear hHeld
      go_wp2
      go_roundw
      case rel => exact ⟨i + 1, by omega, by go_num, HA9, HB9⟩
      case measure => simp [intOf]; omega
    · have hi2 : ¬ (i : Int) < (n : Int) := by omega
      go_wp2
      go_ret
      exact ⟨rfl, HA.out.l⟩
end Go.Proofs.YtekobdmlgbffnaaGreatDoor
