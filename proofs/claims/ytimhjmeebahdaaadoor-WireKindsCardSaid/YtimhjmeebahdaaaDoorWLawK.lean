/- The walk of WireKinds. (Written by gen_wkinds.py.) -/
import Derived.Test.YtimhjmeebahdaaaDoorWHead
namespace Go.Proofs.YtimhjmeebahdaaaDoor
set_option linter.unusedVariables false
set_option linter.unusedSimpArgs false
open Go.RowKit

def oneB (i : Nat) : Bool := knownB ((i : Int) - 3) && (hasK ((i : Int) - 3).toNat 0 || hasK ((i : Int) - 3).toNat 1 || hasK ((i : Int) - 3).toNat 2)
def allN (j : Nat) : Nat := ((List.range j).filter fun i : Nat => knownB ((i : Int) - 3)).length
def bareN (j : Nat) : Nat := ((List.range j).filter oneB).length
theorem allN_next (j : Nat) : allN (j + 1) = allN j + (knownB ((j : Int) - 3)).toNat := by
  unfold allN
  rw [List.range_succ, List.filter_append, List.length_append]
  cases h : knownB ((j : Int) - 3) <;> simp [h]
theorem bareN_next (j : Nat) : bareN (j + 1) = bareN j + (oneB j).toNat := by
  unfold bareN
  rw [List.range_succ, List.filter_append, List.length_append]
  cases h : oneB j <;> simp [h]
theorem allN_all : allN 23 = 14 := by decide +kernel
theorem bareN_all : bareN 23 = 12 := by decide +kernel
theorem allN_le (j : Nat) : allN j ≤ j := by
  have := List.length_filter_le (fun i : Nat => knownB ((i : Int) - 3)) (List.range j)
  rwa [List.length_range] at this
theorem bareN_le (j : Nat) : bareN j ≤ j := by
  have := List.length_filter_le oneB (List.range j)
  rwa [List.length_range] at this
theorem has_apart : ∀ q : Nat, q < 15 → (hasK q 0 && hasK q 1 && hasK q 2) = false ∧ (hasK q 1 && hasK q 2) = false ∧ (hasK q 1 && hasK q 3) = false := by decide +kernel
theorem apart (k : Int) (h : knownB k = true) : (hasK k.toNat 0 && hasK k.toNat 1 && hasK k.toNat 2) = false ∧ (hasK k.toNat 1 && hasK k.toNat 2) = false ∧ (hasK k.toNat 1 && hasK k.toNat 3) = false := by
  have : 1 ≤ k.toNat ∧ k.toNat ≤ 14 ∧ (k.toNat : Int) = k := known_lt ⟨k, bs [], bs [], 0, 0⟩ h
  exact has_apart _ (by omega)
theorem e0 : (⟨#[]⟩ : ByteArray).toList = [] := by rw [show (⟨#[]⟩ : ByteArray) = bs [] from rfl, bs_list]
theorem s0 : (⟨#[]⟩ : ByteArray).size = 0 := rfl
theorem kr0 (k : Int) : rightM ⟨k, ⟨#[]⟩, ⟨#[]⟩, 0, 0⟩ = knownB k := by
  simp [rightM, onlyB, cntB, e0, s0]
theorem kr1 (k : Int) (a : ByteArray) (ha : a.size ≤ 64) (hn : a.toList.isEmpty = false) : rightM ⟨k, a, ⟨#[]⟩, 0, 0⟩ = (knownB k && hasK k.toNat 0) := by
  simp [rightM, onlyB, cntB, e0, s0, hn, ha]
theorem kr2 (k : Int) (b : ByteArray) (hb : b.size ≤ 64) (hn : b.toList.isEmpty = false) : rightM ⟨k, ⟨#[]⟩, b, 0, 0⟩ = (knownB k && hasK k.toNat 1) := by
  simp [rightM, onlyB, cntB, e0, s0, hn, hb]
theorem kr3 (k : Int) (n : Nat) (h1 : 0 < n) (h2 : n < 4294967296) : rightM ⟨k, ⟨#[]⟩, ⟨#[]⟩, n, 0⟩ = (knownB k && hasK k.toNat 2) := by
  have e : ((n : Int) == 0) = false := by rw [beq_eq_false_iff_ne]; omega
  have e2 : decide ((n : Int) ≤ 1099511627776) = true := decide_eq_true (by omega)
  have e3 : decide ((0 : Int) ≤ (n : Int)) = true := decide_eq_true (by omega)
  simp only [rightM, onlyB, cntB, e0, s0, e, e2, e3]
  simp
theorem right_has (x : Mg) : (x.a.toList.isEmpty = false → (rightM x = true → hasK x.k.toNat 0 = true)) ∧ (x.b.toList.isEmpty = false → (rightM x = true → hasK x.k.toNat 1 = true)) ∧ (x.n ≠ 0 → (rightM x = true → hasK x.k.toNat 2 = true)) ∧ (x.m ≠ 0 → (rightM x = true → hasK x.k.toNat 3 = true)) := by
  have key : rightM x = true → _ := fun h => (right_parts x h).2.1
  unfold onlyB at key
  refine ⟨fun h r => ?_, fun h r => ?_, fun h r => ?_, fun h r => ?_⟩ <;> have k := key r <;> simp only [Bool.and_eq_true, Bool.or_eq_true, beq_iff_eq] at k
  · rcases k.1.1.1 with k | k
    · exact k
    · rw [h] at k; cases k
  · rcases k.1.1.2 with k | k
    · exact k
    · rw [h] at k; cases k
  · rcases k.1.2 with k | k
    · exact k
    · exact (h k).elim
  · rcases k.2 with k | k
    · exact k
    · exact (h k).elim
theorem kr_no (x : Mg) (hb : x.b.toList.isEmpty = false) (h : x.n ≠ 0 ∨ x.m ≠ 0) : rightM x = false := by
  cases hr : rightM x with
  | false => rfl
  | true =>
    obtain ⟨_, h1, h2, h3⟩ := right_has x
    obtain ⟨_, p2, p3⟩ := apart x.k (right_parts x hr).1
    have q1 := h1 hb hr
    rcases h with h | h
    · rw [q1, h2 h hr] at p2; cases p2
    · rw [q1, h3 h hr] at p3; cases p3
theorem nat_u32k (a : Int) (h : (Lit.int .u32 a).wf = true) : ∃ n : Nat, n < 4294967296 ∧ a = n := by
  have e1 : IntKind.u32.min = 0 := by decide
  have e2 : IntKind.u32.max = 4294967295 := by decide
  simp only [Lit.wf, e1, e2, Bool.and_eq_true, decide_eq_true_eq] at h
  exact ⟨a.toNat, by omega, by omega⟩

set_option maxRecDepth 100000 in
set_option maxHeartbeats 8000000 in
theorem walk_WireKinds (a b : ByteArray) (n0 m0 : Int) (W : World) (wa : a.size ≤ maxLen) (wb : b.size ≤ maxLen) (wn : (Lit.int .u32 n0).wf = true) (wm : (Lit.int .u32 m0).wf = true) (hG : Gw W) :
    Calls Tryd.prog 5 #[.string a, .string b, .int .u32 n0, .int .u32 m0] W fun e w' => e = .returned (.bool true) ∧ Below W.heap.size W w' := by
  obtain ⟨n, hn, rfl⟩ := nat_u32k n0 wn
  obtain ⟨m, hm, rfl⟩ := nat_u32k m0 wm
  clear wa wb wn wm
  go_enter Tryd.func5, Tryd.ntmps5
  go_wp2_with fail
  refine (whead_ok _ hG).mono ?_
  rintro e w1 ⟨rfl, hb1⟩
  have HG := Lib.hid (hG.below hb1 hG.size)
  have HB := Lib.hid hb1
  clear hb1 hG
  obtain ⟨ea, hea⟩ : ∃ ea, a.toList.isEmpty = ea := ⟨_, rfl⟩
  obtain ⟨eb, heb⟩ : ∃ eb, b.toList.isEmpty = eb := ⟨_, rfl⟩
  by_cases ga : 64 < a.size
  · have ga2 : (64 : Int) < (a.size : Int) := by omega
    have HBf := HB.out
    go_wp2_with fail
    go_ret
    exact ⟨rfl, HBf⟩
  have ga2 : ¬ (64 : Int) < (a.size : Int) := by omega
  by_cases gb : 64 < b.size
  · have gb2 : (64 : Int) < (b.size : Int) := by omega
    have HBf := HB.out
    go_wp2_with fail
    go_ret
    exact ⟨rfl, HBf⟩
  have gb2 : ¬ (64 : Int) < (b.size : Int) := by omega
  cases ea with
  | true =>
    have HBf := HB.out
    go_wp2_with fail
    go_ret
    exact ⟨rfl, HBf⟩
  | false =>
  cases eb with
  | true =>
    have HBf := HB.out
    go_wp2_with fail
    go_ret
    exact ⟨rfl, HBf⟩
  | false =>
  by_cases hn0 : n = 0
  · have en : ((n : Int) == 0) = true := by rw [beq_iff_eq]; omega
    have HBf := HB.out
    go_wp2_with fail
    go_ret
    exact ⟨rfl, HBf⟩
  have en : ((n : Int) == 0) = false := by rw [beq_eq_false_iff_ne]; omega
  by_cases hm0 : m = 0
  · have em : ((m : Int) == 0) = true := by rw [beq_iff_eq]; omega
    have HBf := HB.out
    go_wp2_with fail
    go_ret
    exact ⟨rfl, HBf⟩
  have em : ((m : Int) == 0) = false := by rw [beq_eq_false_iff_ne]; omega
  replace hn0 : 0 < n := by omega
  replace hm0 : 0 < m := by omega
  replace ga : a.size ≤ 64 := by omega
  replace gb : b.size ≤ 64 := by omega
  have HA := Lib.hid (And.intro ga hea)
  have HBB := Lib.hid (And.intro gb heb)
  have HN := Lib.hid (And.intro hn0 hn)
  have HM := Lib.hid hm0
  have hwn : IntKind.i64.wrap (n : Int) = (n : Int) := by simp (disch := omega) only [IntWalk.i64_in]
  have hwm : IntKind.i64.wrap (m : Int) = (m : Int) := by simp (disch := omega) only [IntWalk.i64_in]
  go_upto_region 6 with (fail)
  clear ga2 gb2 hea heb en em hn0 hm0 ga gb
  go_wp2_with fail
  go_loopw [10, 11, 12] (fun v10 v11 v12 wr => ∃ (i p q : Nat) (k : Int), -3 ≤ k ∧ k ≤ 20 ∧ p ≤ 23 ∧ q ≤ 23 ∧ v10 = .int .i64 (p : Int) ∧ v11 = .int .i64 (q : Int) ∧ v12 = .int .i64 k ∧ Hid (k = (i : Int) - 3 ∧ p = bareN i ∧ q = allN i) ∧ Hid (Gw wr) ∧ Hid (Below W.heap.size W wr)) (fun _ _ v12 _ => (20 - intOf v12).toNat)
  case atStart => exact ⟨0, 0, 0, -3, by omega, by omega, by omega, by omega, rfl, rfl, rfl, Lib.hid ⟨by decide, by decide, by decide⟩, HG, HB⟩
  case round =>
    obtain ⟨i, p, q, k, k1, k2, hp, hq, rfl, rfl, rfl, HI, HGr, HBr⟩ := hrel
    clear HG HB
    by_cases hk : k < 20
    · have HNEXT := Lib.hid (show bareN (i + 1) = p + (knownB k && (hasK k.toNat 0 || hasK k.toNat 1 || hasK k.toNat 2)).toNat ∧ allN (i + 1) = q + (knownB k).toNat from by
        obtain ⟨h1, h2, h3⟩ := HI.out
        rw [bareN_next, allN_next, h1, h2, h3]
        exact ⟨rfl, rfl⟩)
      have HLE := Lib.hid (show bareN (i + 1) ≤ 23 ∧ allN (i + 1) ≤ 23 ∧ (k + 1 = ((i + 1 : Nat) : Int) - 3) from by
        have h1 := HI.out.1
        have h2 := bareN_le (i + 1)
        have h3 := allN_le (i + 1)
        omega)
      have HR0 := Lib.hid (fun u (h : Gw u) => right_ok ⟨k, ⟨#[]⟩, ⟨#[]⟩, 0, 0⟩ u h (show (0 : Nat) ≤ 140737488355328 by decide) (show (0 : Nat) ≤ 140737488355328 by decide))
      have HR1 := Lib.hid (fun u (h : Gw u) => right_ok ⟨k, a, ⟨#[]⟩, 0, 0⟩ u h (show a.size ≤ 140737488355328 by have := HA.out.1; omega) (show (0 : Nat) ≤ 140737488355328 by decide))
      have HR2 := Lib.hid (fun u (h : Gw u) => right_ok ⟨k, ⟨#[]⟩, b, 0, 0⟩ u h (show (0 : Nat) ≤ 140737488355328 by decide) (show b.size ≤ 140737488355328 by have := HBB.out.1; omega))
      have HR3 := Lib.hid (fun u (h : Gw u) => right_ok ⟨k, ⟨#[]⟩, ⟨#[]⟩, n, 0⟩ u h (show (0 : Nat) ≤ 140737488355328 by decide) (show (0 : Nat) ≤ 140737488355328 by decide))
      have HR4 := Lib.hid (fun u (h : Gw u) => right_ok ⟨k, a, b, n, 0⟩ u h (show a.size ≤ 140737488355328 by have := HA.out.1; omega) (show b.size ≤ 140737488355328 by have := HBB.out.1; omega))
      have HR5 := Lib.hid (fun u (h : Gw u) => right_ok ⟨k, ⟨#[]⟩, b, n, 0⟩ u h (show (0 : Nat) ≤ 140737488355328 by decide) (show b.size ≤ 140737488355328 by have := HBB.out.1; omega))
      have HR6 := Lib.hid (fun u (h : Gw u) => right_ok ⟨k, ⟨#[]⟩, b, 0, m⟩ u h (show (0 : Nat) ≤ 140737488355328 by decide) (show b.size ≤ 140737488355328 by have := HBB.out.1; omega))
      rw [kr0] at HR0
      rw [kr1 k a HA.out.1 HA.out.2] at HR1
      rw [kr2 k b HBB.out.1 HBB.out.2] at HR2
      rw [kr3 k n HN.out.1 HN.out.2] at HR3
      rw [kr_no _ HBB.out.2 (Or.inl (show (n : Int) ≠ 0 by have := HN.out.1; omega))] at HR4
      rw [kr_no _ HBB.out.2 (Or.inl (show (n : Int) ≠ 0 by have := HN.out.1; omega))] at HR5
      rw [kr_no _ HBB.out.2 (Or.inr (show (m : Int) ≠ 0 by have := HM.out; omega))] at HR6
      obtain ⟨kb, hkb⟩ : ∃ kb, knownB k = kb := ⟨_, rfl⟩
      obtain ⟨h0, hh0⟩ : ∃ h, hasK k.toNat 0 = h := ⟨_, rfl⟩
      obtain ⟨h1, hh1⟩ : ∃ h, hasK k.toNat 1 = h := ⟨_, rfl⟩
      obtain ⟨h2, hh2⟩ : ∃ h, hasK k.toNat 2 = h := ⟨_, rfl⟩
      rw [hkb] at HR0 HR1 HR2 HR3 HNEXT
      rw [hh0] at HR1 HNEXT
      rw [hh1] at HR2 HNEXT
      rw [hh2] at HR3 HNEXT
      clear hkb hh0 hh1 hh2
      cases kb with
      | false =>
        simp only [Bool.false_and] at HR1 HR2 HR3 HNEXT
        go_wp2_with fail
        refine (HR0.out _ HGr.out).mono ?_
        rintro e u0 ⟨rfl, hb⟩
        have G0 := Lib.hid (HGr.out.below hb HGr.out.size)
        have B0 := Lib.hid (HBr.out.trans (hb.mono HBr.out.size))
        clear hb
        go_wp2_with fail
        refine (HR1.out _ G0.out).mono ?_
        rintro e u1 ⟨rfl, hb⟩
        have G1 := Lib.hid (G0.out.below hb G0.out.size)
        have B1 := Lib.hid (B0.out.trans (hb.mono B0.out.size))
        clear hb
        go_wp2_with fail
        refine (HR2.out _ G1.out).mono ?_
        rintro e u2 ⟨rfl, hb⟩
        have G2 := Lib.hid (G1.out.below hb G1.out.size)
        have B2 := Lib.hid (B1.out.trans (hb.mono B1.out.size))
        clear hb
        go_wp2_with fail
        refine (HR3.out _ G2.out).mono ?_
        rintro e u3 ⟨rfl, hb⟩
        have G3 := Lib.hid (G2.out.below hb G2.out.size)
        have B3 := Lib.hid (B2.out.trans (hb.mono B2.out.size))
        clear hb
        go_wp2_with fail
        refine (HR4.out _ G3.out).mono ?_
        rintro e u4 ⟨rfl, hb⟩
        have G4 := Lib.hid (G3.out.below hb G3.out.size)
        have B4 := Lib.hid (B3.out.trans (hb.mono B3.out.size))
        clear hb
        go_wp2_with fail
        refine (HR5.out _ G4.out).mono ?_
        rintro e u5 ⟨rfl, hb⟩
        have G5 := Lib.hid (G4.out.below hb G4.out.size)
        have B5 := Lib.hid (B4.out.trans (hb.mono B4.out.size))
        clear hb
        go_wp2_with fail
        refine (HR6.out _ G5.out).mono ?_
        rintro e u6 ⟨rfl, hb⟩
        have G6 := Lib.hid (G5.out.below hb G5.out.size)
        have B6 := Lib.hid (B5.out.trans (hb.mono B5.out.size))
        clear hb
        go_wp2_with fail
        go_roundw
        case rel => exact ⟨i + 1, p, q, k + 1, by omega, by omega, by have h := HLE.out.1; rw [HNEXT.out.1] at h; simpa using h, by have h := HLE.out.2.1; rw [HNEXT.out.2] at h; simpa using h, by go_num, by go_num, by go_num, Lib.hid ⟨HLE.out.2.2, by rw [HNEXT.out.1]; simp, by rw [HNEXT.out.2]; simp⟩, G6, B6⟩
        case measure => simp [intOf]; omega
      | true =>
        simp only [Bool.true_and] at HR1 HR2 HR3 HNEXT
        cases h0 with
        | true =>
          go_wp2_with fail
          refine (HR0.out _ HGr.out).mono ?_
          rintro e u0 ⟨rfl, hb⟩
          have G0 := Lib.hid (HGr.out.below hb HGr.out.size)
          have B0 := Lib.hid (HBr.out.trans (hb.mono HBr.out.size))
          clear hb
          go_wp2_with fail
          refine (HR1.out _ G0.out).mono ?_
          rintro e u1 ⟨rfl, hb⟩
          have G1 := Lib.hid (G0.out.below hb G0.out.size)
          have B1 := Lib.hid (B0.out.trans (hb.mono B0.out.size))
          clear hb
          go_wp2_with fail
          refine (HR4.out _ G1.out).mono ?_
          rintro e u4 ⟨rfl, hb⟩
          have G4 := Lib.hid (G1.out.below hb G1.out.size)
          have B4 := Lib.hid (B1.out.trans (hb.mono B1.out.size))
          clear hb
          go_wp2_with fail
          refine (HR5.out _ G4.out).mono ?_
          rintro e u5 ⟨rfl, hb⟩
          have G5 := Lib.hid (G4.out.below hb G4.out.size)
          have B5 := Lib.hid (B4.out.trans (hb.mono B4.out.size))
          clear hb
          go_wp2_with fail
          refine (HR6.out _ G5.out).mono ?_
          rintro e u6 ⟨rfl, hb⟩
          have G6 := Lib.hid (G5.out.below hb G5.out.size)
          have B6 := Lib.hid (B5.out.trans (hb.mono B5.out.size))
          clear hb
          go_wp2_with fail
          go_roundw
          case rel => exact ⟨i + 1, p + 1, q + 1, k + 1, by omega, by omega, by have h := HLE.out.1; rw [HNEXT.out.1] at h; simpa using h, by have h := HLE.out.2.1; rw [HNEXT.out.2] at h; simpa using h, by go_num, by go_num, by go_num, Lib.hid ⟨HLE.out.2.2, by rw [HNEXT.out.1]; simp, by rw [HNEXT.out.2]; simp⟩, G6, B6⟩
          case measure => simp [intOf]; omega
        | false =>
          cases h1 with
          | true =>
            go_wp2_with fail
            refine (HR0.out _ HGr.out).mono ?_
            rintro e u0 ⟨rfl, hb⟩
            have G0 := Lib.hid (HGr.out.below hb HGr.out.size)
            have B0 := Lib.hid (HBr.out.trans (hb.mono HBr.out.size))
            clear hb
            go_wp2_with fail
            refine (HR1.out _ G0.out).mono ?_
            rintro e u1 ⟨rfl, hb⟩
            have G1 := Lib.hid (G0.out.below hb G0.out.size)
            have B1 := Lib.hid (B0.out.trans (hb.mono B0.out.size))
            clear hb
            go_wp2_with fail
            refine (HR2.out _ G1.out).mono ?_
            rintro e u2 ⟨rfl, hb⟩
            have G2 := Lib.hid (G1.out.below hb G1.out.size)
            have B2 := Lib.hid (B1.out.trans (hb.mono B1.out.size))
            clear hb
            go_wp2_with fail
            refine (HR4.out _ G2.out).mono ?_
            rintro e u4 ⟨rfl, hb⟩
            have G4 := Lib.hid (G2.out.below hb G2.out.size)
            have B4 := Lib.hid (B2.out.trans (hb.mono B2.out.size))
            clear hb
            go_wp2_with fail
            refine (HR5.out _ G4.out).mono ?_
            rintro e u5 ⟨rfl, hb⟩
            have G5 := Lib.hid (G4.out.below hb G4.out.size)
            have B5 := Lib.hid (B4.out.trans (hb.mono B4.out.size))
            clear hb
            go_wp2_with fail
            refine (HR6.out _ G5.out).mono ?_
            rintro e u6 ⟨rfl, hb⟩
            have G6 := Lib.hid (G5.out.below hb G5.out.size)
            have B6 := Lib.hid (B5.out.trans (hb.mono B5.out.size))
            clear hb
            go_wp2_with fail
            go_roundw
            case rel => exact ⟨i + 1, p + 1, q + 1, k + 1, by omega, by omega, by have h := HLE.out.1; rw [HNEXT.out.1] at h; simpa using h, by have h := HLE.out.2.1; rw [HNEXT.out.2] at h; simpa using h, by go_num, by go_num, by go_num, Lib.hid ⟨HLE.out.2.2, by rw [HNEXT.out.1]; simp, by rw [HNEXT.out.2]; simp⟩, G6, B6⟩
            case measure => simp [intOf]; omega
          | false =>
            cases h2 with
            | true =>
              go_wp2_with fail
              refine (HR0.out _ HGr.out).mono ?_
              rintro e u0 ⟨rfl, hb⟩
              have G0 := Lib.hid (HGr.out.below hb HGr.out.size)
              have B0 := Lib.hid (HBr.out.trans (hb.mono HBr.out.size))
              clear hb
              go_wp2_with fail
              refine (HR1.out _ G0.out).mono ?_
              rintro e u1 ⟨rfl, hb⟩
              have G1 := Lib.hid (G0.out.below hb G0.out.size)
              have B1 := Lib.hid (B0.out.trans (hb.mono B0.out.size))
              clear hb
              go_wp2_with fail
              refine (HR2.out _ G1.out).mono ?_
              rintro e u2 ⟨rfl, hb⟩
              have G2 := Lib.hid (G1.out.below hb G1.out.size)
              have B2 := Lib.hid (B1.out.trans (hb.mono B1.out.size))
              clear hb
              go_wp2_with fail
              refine (HR3.out _ G2.out).mono ?_
              rintro e u3 ⟨rfl, hb⟩
              have G3 := Lib.hid (G2.out.below hb G2.out.size)
              have B3 := Lib.hid (B2.out.trans (hb.mono B2.out.size))
              clear hb
              go_wp2_with fail
              refine (HR4.out _ G3.out).mono ?_
              rintro e u4 ⟨rfl, hb⟩
              have G4 := Lib.hid (G3.out.below hb G3.out.size)
              have B4 := Lib.hid (B3.out.trans (hb.mono B3.out.size))
              clear hb
              go_wp2_with fail
              refine (HR5.out _ G4.out).mono ?_
              rintro e u5 ⟨rfl, hb⟩
              have G5 := Lib.hid (G4.out.below hb G4.out.size)
              have B5 := Lib.hid (B4.out.trans (hb.mono B4.out.size))
              clear hb
              go_wp2_with fail
              refine (HR6.out _ G5.out).mono ?_
              rintro e u6 ⟨rfl, hb⟩
              have G6 := Lib.hid (G5.out.below hb G5.out.size)
              have B6 := Lib.hid (B5.out.trans (hb.mono B5.out.size))
              clear hb
              go_wp2_with fail
              go_roundw
              case rel => exact ⟨i + 1, p + 1, q + 1, k + 1, by omega, by omega, by have h := HLE.out.1; rw [HNEXT.out.1] at h; simpa using h, by have h := HLE.out.2.1; rw [HNEXT.out.2] at h; simpa using h, by go_num, by go_num, by go_num, Lib.hid ⟨HLE.out.2.2, by rw [HNEXT.out.1]; simp, by rw [HNEXT.out.2]; simp⟩, G6, B6⟩
              case measure => simp [intOf]; omega
            | false =>
              go_wp2_with fail
              refine (HR0.out _ HGr.out).mono ?_
              rintro e u0 ⟨rfl, hb⟩
              have G0 := Lib.hid (HGr.out.below hb HGr.out.size)
              have B0 := Lib.hid (HBr.out.trans (hb.mono HBr.out.size))
              clear hb
              go_wp2_with fail
              refine (HR1.out _ G0.out).mono ?_
              rintro e u1 ⟨rfl, hb⟩
              have G1 := Lib.hid (G0.out.below hb G0.out.size)
              have B1 := Lib.hid (B0.out.trans (hb.mono B0.out.size))
              clear hb
              go_wp2_with fail
              refine (HR2.out _ G1.out).mono ?_
              rintro e u2 ⟨rfl, hb⟩
              have G2 := Lib.hid (G1.out.below hb G1.out.size)
              have B2 := Lib.hid (B1.out.trans (hb.mono B1.out.size))
              clear hb
              go_wp2_with fail
              refine (HR3.out _ G2.out).mono ?_
              rintro e u3 ⟨rfl, hb⟩
              have G3 := Lib.hid (G2.out.below hb G2.out.size)
              have B3 := Lib.hid (B2.out.trans (hb.mono B2.out.size))
              clear hb
              go_wp2_with fail
              refine (HR4.out _ G3.out).mono ?_
              rintro e u4 ⟨rfl, hb⟩
              have G4 := Lib.hid (G3.out.below hb G3.out.size)
              have B4 := Lib.hid (B3.out.trans (hb.mono B3.out.size))
              clear hb
              go_wp2_with fail
              refine (HR5.out _ G4.out).mono ?_
              rintro e u5 ⟨rfl, hb⟩
              have G5 := Lib.hid (G4.out.below hb G4.out.size)
              have B5 := Lib.hid (B4.out.trans (hb.mono B4.out.size))
              clear hb
              go_wp2_with fail
              refine (HR6.out _ G5.out).mono ?_
              rintro e u6 ⟨rfl, hb⟩
              have G6 := Lib.hid (G5.out.below hb G5.out.size)
              have B6 := Lib.hid (B5.out.trans (hb.mono B5.out.size))
              clear hb
              go_wp2_with fail
              go_roundw
              case rel => exact ⟨i + 1, p, q + 1, k + 1, by omega, by omega, by have h := HLE.out.1; rw [HNEXT.out.1] at h; simpa using h, by have h := HLE.out.2.1; rw [HNEXT.out.2] at h; simpa using h, by go_num, by go_num, by go_num, Lib.hid ⟨HLE.out.2.2, by rw [HNEXT.out.1]; simp, by rw [HNEXT.out.2]; simp⟩, G6, B6⟩
              case measure => simp [intOf]; omega
    · obtain rfl : k = 20 := by omega
      obtain ⟨j1, j2, j3⟩ := HI.out
      obtain rfl : i = 23 := by omega
      rw [bareN_all] at j2
      rw [allN_all] at j3
      subst j2; subst j3
      have hBB := HBr.out
      clear j1 HI
      go_wp2_with fail
      go_ret
      exact ⟨rfl, hBB⟩
end Go.Proofs.YtimhjmeebahdaaaDoor
