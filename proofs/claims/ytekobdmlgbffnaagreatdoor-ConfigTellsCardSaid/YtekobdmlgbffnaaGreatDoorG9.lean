/- Cz7, Syn4, SMath, SMathB: texts of this seat, one behind the other. -/
import Derived.Test.YtekobdmlgbffnaaGreatDoorCz5
import Derived.Test.YtekobdmlgbffnaaGreatDoorG8
import Derived.Test.YtekobdmlgbffnaaGreatDoorG3
import Derived.Test.YtekobdmlgbffnaaGreatDoorG4
import Derived.Test.YtekobdmlgbffnaaGreatDoorG2
import Derived.Test.YtekobdmlgbffnaaGreatDoorShelf
import Derived.Test.YtekobdmlgbffnaaGreatDoorG1
import Derived.Lib.CutLaws
import Derived.BigQuiet
import Derived.Deep.QuietTactic
/- The document's own: with: what it tells, and the lines that it does not take. (Written by gen_cz7.py.) -/
namespace Go.Proofs.YtekobdmlgbffnaaGreatDoor
set_option linter.unusedVariables false
set_option maxRecDepth 100000
set_option linter.unusedSimpArgs false
open Go.RowKit

/-- What a line makes of a configuration, whether it is right or not. -/
def withO (c : Cg) (first : Bool) (ws : List (List UInt8)) : Option Cg := if decide (ws.head? = some wTimes) = first then readW c ws else none
theorem lineC_with (c : Cg) (first : Bool) (ws : List (List UInt8)) : lineC c first ws = okC (withO c first ws) := by
  unfold lineC withO
  split <;> rfl
/-- What with tells. -/
def WiP (x : Cv) (first : Bool) (ws : List (List UInt8)) (w : World) (e : Ending) (w' : World) : Prop :=
  Below w.heap.size w w' ∧ ((∃ y : Cv, e = .returned (.tuple #[.agg (ccs y), .bool false]) ∧ withO x.cg first ws = none) ∨ (∃ y : Cv, e = .returned (.tuple #[.agg (ccs y), .bool true]) ∧ RC w' y ∧ withO x.cg first ws = some y.cg))
theorem with_ne (c : Cg) (first : Bool) (k : List UInt8) (ws : List (List UInt8)) (h : decide (k = wTimes) = !first) : withO c first (k :: ws) = none := by
  unfold withO
  rw [if_neg]
  simp only [List.head?_cons, Option.some.injEq, h]
  cases first <;> simp
theorem with_eq (c : Cg) (first : Bool) (k : List UInt8) (ws : List (List UInt8)) (h : decide (k = wTimes) = first) : withO c first (k :: ws) = readW c (k :: ws) := by
  unfold withO
  rw [if_pos]
  simp only [List.head?_cons, Option.some.injEq, h]
theorem is_times (k : List UInt8) : ((bs k).toList == [116, 105, 109, 101, 115]) = decide (k = wTimes) := by
  rw [bs_list]
  show (k == wTimes) = _
  by_cases h : k = wTimes <;> simp [h]
theorem is_tenant (k : List UInt8) : ((bs k).toList == [116, 101, 110, 97, 110, 116]) = decide (k = wTenant) := by
  rw [bs_list]
  show (k == wTenant) = _
  by_cases h : k = wTenant <;> simp [h]
theorem is_net (k : List UInt8) : ((bs k).toList == [110, 101, 116]) = decide (k = wNet) := by
  rw [bs_list]
  show (k == wNet) = _
  by_cases h : k = wNet <;> simp [h]
theorem is_token (k : List UInt8) : ((bs k).toList == [116, 111, 107, 101, 110]) = decide (k = wToken) := by
  rw [bs_list]
  show (k == wToken) = _
  by_cases h : k = wToken <;> simp [h]

set_option maxRecDepth 100000 in
set_option maxHeartbeats 4000000 in
theorem rwith_ne (x : Cv) (first : Bool) (b o n c : Nat) (k : List UInt8) (ws : List (List UInt8)) (w : World) (hn : (k :: ws).length = n) (hn9 : n ≤ 1099511627) (hlt : b < w.heap.size) (hc0 : w.cell? ⟨b, o, none⟩ = some (.string (bs k))) (hne : decide (k = wTimes) = !first) :
    Calls Tryz.prog 36 #[.agg (ccs x), .bool first, .slice (some ⟨b, o, none⟩) n c] w (WiP x first (k :: ws) w) := by
  obtain ⟨a0, a1, a2, a3, ts, A, c1⟩ := x
  have h0 : 0 < n := by rw [← hn]; simp
  have h0i : (0 : Int) < (n : Int) := by omega
  have hw := with_ne (Cv.cg ⟨a0, a1, a2, a3, ts, A, c1⟩) first k ws hne
  have hq : ((bs k).toList == [116, 105, 109, 101, 115]) = !first := by rw [is_times, hne]
  obtain ⟨n1, hn1⟩ : ∃ m, ts.length = m := ⟨_, rfl⟩
  have HN1 := Lib.hid hn1
  obtain ⟨B, hB⟩ : ∃ B, bs k = B := ⟨_, rfl⟩
  rw [hB] at hq hc0
  clear hne hB
  simp only [ccs, hn1]
  have HB0 := Lib.hid (show Bk ((w.alloc (.cells #[.int .i64 a0, .int .i64 a1, .int .i64 a2, .int .i64 a3, .slice A n1 c1] 24)).alloc (.cells #[.int .i64 0, .int .i64 0, .int .i64 0, .int .i64 0, .slice none 0 0] 24)) w.heap.size 24 #[.int .i64 a0, .int .i64 a1, .int .i64 a2, .int .i64 a3, .slice A n1 c1] from (Bk.new w _ _).alloc _)
  have HB1 := Lib.hid (show Bk ((w.alloc (.cells #[.int .i64 a0, .int .i64 a1, .int .i64 a2, .int .i64 a3, .slice A n1 c1] 24)).alloc (.cells #[.int .i64 0, .int .i64 0, .int .i64 0, .int .i64 0, .slice none 0 0] 24)) (w.heap.size + 1) 24 #[.int .i64 0, .int .i64 0, .int .i64 0, .int .i64 0, .slice none 0 0] by have := Bk.new (w.alloc (.cells #[.int .i64 a0, .int .i64 a1, .int .i64 a2, .int .i64 a3, .slice A n1 c1] 24)) 24 #[.int .i64 0, .int .i64 0, .int .i64 0, .int .i64 0, .slice none 0 0]; rwa [World.size_alloc] at this)
  have HLO := Lib.hid (show Below w.heap.size w ((w.alloc (.cells #[.int .i64 a0, .int .i64 a1, .int .i64 a2, .int .i64 a3, .slice A n1 c1] 24)).alloc (.cells #[.int .i64 0, .int .i64 0, .int .i64 0, .int .i64 0, .slice none 0 0] 24)) from ((Below.refl w.heap.size w).alloc (Nat.le_refl _) _).alloc (by rw [World.size_alloc]; omega) _)
  have c0w : ((w.alloc (.cells #[.int .i64 a0, .int .i64 a1, .int .i64 a2, .int .i64 a3, .slice A n1 c1] 24)).alloc (.cells #[.int .i64 0, .int .i64 0, .int .i64 0, .int .i64 0, .slice none 0 0] 24)).cell? ⟨b, o, none⟩ = some (.string B) := (HLO.out.cell (p := ⟨b, o, none⟩) hlt).trans hc0
  clear hn1
  cases first
  · simp only [Bool.not_false] at hq
    go_enter Tryz.func36, Tryz.ntmps36
    go_upto_region 1 with fail
    obtain ⟨v0, hv0⟩ : ∃ v, ((w.alloc (.cells #[.int .i64 a0, .int .i64 a1, .int .i64 a2, .int .i64 a3, .slice A n1 c1] 24)).alloc (.cells #[.int .i64 0, .int .i64 0, .int .i64 0, .int .i64 0, .slice none 0 0] 24)) = v := ⟨_, rfl⟩
    rw [hv0] at HB0 HB1 HLO c0w ⊢
    clear hv0
    have p0 : v0.cell? ⟨w.heap.size, 0, none⟩ = some (.int .i64 a0) := HB0.out.cell 0
    have g0 : v0.cell? ⟨w.heap.size + 1, 0, none⟩ = some (.int .i64 0) := HB1.out.cell 0
    have gf0 := HB1.out.frozen 0
    have p1 : v0.cell? ⟨w.heap.size, 1, none⟩ = some (.int .i64 a1) := HB0.out.cell 1
    have g1 : v0.cell? ⟨w.heap.size + 1, 1, none⟩ = some (.int .i64 0) := HB1.out.cell 1
    have gf1 := HB1.out.frozen 1
    have p2 : v0.cell? ⟨w.heap.size, 2, none⟩ = some (.int .i64 a2) := HB0.out.cell 2
    have g2 : v0.cell? ⟨w.heap.size + 1, 2, none⟩ = some (.int .i64 0) := HB1.out.cell 2
    have gf2 := HB1.out.frozen 2
    have p3 : v0.cell? ⟨w.heap.size, 3, none⟩ = some (.int .i64 a3) := HB0.out.cell 3
    have g3 : v0.cell? ⟨w.heap.size + 1, 3, none⟩ = some (.int .i64 0) := HB1.out.cell 3
    have gf3 := HB1.out.frozen 3
    have p4 : v0.cell? ⟨w.heap.size, 4, none⟩ = some (.slice A n1 c1) := HB0.out.cell 4
    have g4 : v0.cell? ⟨w.heap.size + 1, 4, none⟩ = some (.slice none 0 0) := HB1.out.cell 4
    have gf4 := HB1.out.frozen 4
    try simp only [List.cons_append, List.nil_append]
    go_wp2
    have kU := (((((HB1.out.set 0 (.int .i64 a0)).set 1 (.int .i64 a1)).set 2 (.int .i64 a2)).set 3 (.int .i64 a3)).set 4 (.slice A n1 c1))
    simp only [List.setIfInBounds_toArray, List.set_cons_zero, List.set_cons_succ] at kU
    refine bodyPost_ret (v := .tuple #[.agg #[.int .i64 a0, .int .i64 a1, .int .i64 a2, .int .i64 a3, .slice A n1 c1], .bool false]) ?_ rfl ⟨?_, .inl ⟨⟨a0, a1, a2, a3, ts, A, c1⟩, by simp only [ccs, HN1.out], hw⟩⟩
    · have k0 := kU.cell 0; have k1 := kU.cell 1; have k2 := kU.cell 2; have k3 := kU.cell 3; have k4 := kU.cell 4
      simp [results, Tryz.f36, go_sem, k0, k1, k2, k3, k4]
    · exact (((((HLO.out.setCell (p := ⟨w.heap.size + 1, 0, none⟩) (by show w.heap.size ≤ w.heap.size + 1; omega) _).setCell (p := ⟨w.heap.size + 1, 1, none⟩) (by show w.heap.size ≤ w.heap.size + 1; omega) _).setCell (p := ⟨w.heap.size + 1, 2, none⟩) (by show w.heap.size ≤ w.heap.size + 1; omega) _).setCell (p := ⟨w.heap.size + 1, 3, none⟩) (by show w.heap.size ≤ w.heap.size + 1; omega) _).setCell (p := ⟨w.heap.size + 1, 4, none⟩) (by show w.heap.size ≤ w.heap.size + 1; omega) _)
  · simp only [Bool.not_true] at hq
    go_enter Tryz.func36, Tryz.ntmps36
    go_upto_region 1 with fail
    obtain ⟨v0, hv0⟩ : ∃ v, ((w.alloc (.cells #[.int .i64 a0, .int .i64 a1, .int .i64 a2, .int .i64 a3, .slice A n1 c1] 24)).alloc (.cells #[.int .i64 0, .int .i64 0, .int .i64 0, .int .i64 0, .slice none 0 0] 24)) = v := ⟨_, rfl⟩
    rw [hv0] at HB0 HB1 HLO c0w ⊢
    clear hv0
    have p0 : v0.cell? ⟨w.heap.size, 0, none⟩ = some (.int .i64 a0) := HB0.out.cell 0
    have g0 : v0.cell? ⟨w.heap.size + 1, 0, none⟩ = some (.int .i64 0) := HB1.out.cell 0
    have gf0 := HB1.out.frozen 0
    have p1 : v0.cell? ⟨w.heap.size, 1, none⟩ = some (.int .i64 a1) := HB0.out.cell 1
    have g1 : v0.cell? ⟨w.heap.size + 1, 1, none⟩ = some (.int .i64 0) := HB1.out.cell 1
    have gf1 := HB1.out.frozen 1
    have p2 : v0.cell? ⟨w.heap.size, 2, none⟩ = some (.int .i64 a2) := HB0.out.cell 2
    have g2 : v0.cell? ⟨w.heap.size + 1, 2, none⟩ = some (.int .i64 0) := HB1.out.cell 2
    have gf2 := HB1.out.frozen 2
    have p3 : v0.cell? ⟨w.heap.size, 3, none⟩ = some (.int .i64 a3) := HB0.out.cell 3
    have g3 : v0.cell? ⟨w.heap.size + 1, 3, none⟩ = some (.int .i64 0) := HB1.out.cell 3
    have gf3 := HB1.out.frozen 3
    have p4 : v0.cell? ⟨w.heap.size, 4, none⟩ = some (.slice A n1 c1) := HB0.out.cell 4
    have g4 : v0.cell? ⟨w.heap.size + 1, 4, none⟩ = some (.slice none 0 0) := HB1.out.cell 4
    have gf4 := HB1.out.frozen 4
    try simp only [List.cons_append, List.nil_append]
    go_wp2
    have kU := (((((HB1.out.set 0 (.int .i64 a0)).set 1 (.int .i64 a1)).set 2 (.int .i64 a2)).set 3 (.int .i64 a3)).set 4 (.slice A n1 c1))
    simp only [List.setIfInBounds_toArray, List.set_cons_zero, List.set_cons_succ] at kU
    refine bodyPost_ret (v := .tuple #[.agg #[.int .i64 a0, .int .i64 a1, .int .i64 a2, .int .i64 a3, .slice A n1 c1], .bool false]) ?_ rfl ⟨?_, .inl ⟨⟨a0, a1, a2, a3, ts, A, c1⟩, by simp only [ccs, HN1.out], hw⟩⟩
    · have k0 := kU.cell 0; have k1 := kU.cell 1; have k2 := kU.cell 2; have k3 := kU.cell 3; have k4 := kU.cell 4
      simp [results, Tryz.f36, go_sem, k0, k1, k2, k3, k4]
    · exact (((((HLO.out.setCell (p := ⟨w.heap.size + 1, 0, none⟩) (by show w.heap.size ≤ w.heap.size + 1; omega) _).setCell (p := ⟨w.heap.size + 1, 1, none⟩) (by show w.heap.size ≤ w.heap.size + 1; omega) _).setCell (p := ⟨w.heap.size + 1, 2, none⟩) (by show w.heap.size ≤ w.heap.size + 1; omega) _).setCell (p := ⟨w.heap.size + 1, 3, none⟩) (by show w.heap.size ≤ w.heap.size + 1; omega) _).setCell (p := ⟨w.heap.size + 1, 4, none⟩) (by show w.heap.size ≤ w.heap.size + 1; omega) _)

theorem nums4 {a b d e : List UInt8} {l : List Nat} (h : numsO [a, b, d, e] = some l) : ∃ i j k m, l = [i, j, k, m] ∧ decO a = some i ∧ decO b = some j ∧ decO d = some k ∧ decO e = some m := by
  simp only [numsO] at h
  cases ha : decO a <;> cases hb : decO b <;> cases hd : decO d <;> cases he : decO e <;> simp [ha, hb, hd, he] at h
  exact ⟨_, _, _, _, h.symm, rfl, rfl, rfl, rfl⟩
theorem nums4_no {a b d e : List UInt8} (h : numsO [a, b, d, e] = none) (c : Cg) : readTimes c [a, b, d, e] = none := by
  simp only [numsO] at h
  unfold readTimes
  cases ha : decO a <;> cases hb : decO b <;> cases hd : decO d <;> cases he : decO e <;> simp [ha, hb, hd, he] at h ⊢

set_option maxRecDepth 100000 in
set_option maxHeartbeats 4000000 in
theorem rwith_times (x : Cv) (b o c : Nat) (y0 y1 y2 y3 : List UInt8) (w : World) (hc5 : 5 ≤ c) (hlt : b < w.heap.size) (hts : x.ts = [])
    (hrow : ∀ j z, [wTimes, y0, y1, y2, y3][j]? = some z → w.cell? ⟨b, o + j, none⟩ = some (.string (bs z)) ∧ z.length ≤ 140737488355328) :
    Calls Tryz.prog 36 #[.agg (ccs x), .bool true, .slice (some ⟨b, o, none⟩) 5 c] w (WiP x true [wTimes, y0, y1, y2, y3] w) := by
  obtain ⟨a0, a1, a2, a3, ts, A, c1⟩ := x
  have hc0 : w.cell? ⟨b, o, none⟩ = some (.string (bs wTimes)) := (hrow 0 _ rfl).1
  have hw := with_eq (Cv.cg ⟨a0, a1, a2, a3, ts, A, c1⟩) true wTimes [y0, y1, y2, y3] rfl
  have hq : ((bs wTimes).toList == [116, 105, 109, 101, 115]) = true := is_times wTimes
  have hcn : ¬ c = 1 := by omega
  have HRW := Lib.hid (fun j z (hj : [y0, y1, y2, y3][j]? = some z) => hrow (j + 1) z hj)
  clear hrow
  obtain ⟨n1, hn1⟩ : ∃ m, ts.length = m := ⟨_, rfl⟩
  have HN1 := Lib.hid hn1
  obtain ⟨B, hB⟩ : ∃ B, bs wTimes = B := ⟨_, rfl⟩
  rw [hB] at hq hc0
  clear hB
  simp only [ccs, hn1]
  have HB0 := Lib.hid (show Bk ((w.alloc (.cells #[.int .i64 a0, .int .i64 a1, .int .i64 a2, .int .i64 a3, .slice A n1 c1] 24)).alloc (.cells #[.int .i64 0, .int .i64 0, .int .i64 0, .int .i64 0, .slice none 0 0] 24)) w.heap.size 24 #[.int .i64 a0, .int .i64 a1, .int .i64 a2, .int .i64 a3, .slice A n1 c1] from (Bk.new w _ _).alloc _)
  have HB1 := Lib.hid (show Bk ((w.alloc (.cells #[.int .i64 a0, .int .i64 a1, .int .i64 a2, .int .i64 a3, .slice A n1 c1] 24)).alloc (.cells #[.int .i64 0, .int .i64 0, .int .i64 0, .int .i64 0, .slice none 0 0] 24)) (w.heap.size + 1) 24 #[.int .i64 0, .int .i64 0, .int .i64 0, .int .i64 0, .slice none 0 0] by have := Bk.new (w.alloc (.cells #[.int .i64 a0, .int .i64 a1, .int .i64 a2, .int .i64 a3, .slice A n1 c1] 24)) 24 #[.int .i64 0, .int .i64 0, .int .i64 0, .int .i64 0, .slice none 0 0]; rwa [World.size_alloc] at this)
  have HLO := Lib.hid (show Below w.heap.size w ((w.alloc (.cells #[.int .i64 a0, .int .i64 a1, .int .i64 a2, .int .i64 a3, .slice A n1 c1] 24)).alloc (.cells #[.int .i64 0, .int .i64 0, .int .i64 0, .int .i64 0, .slice none 0 0] 24)) from ((Below.refl w.heap.size w).alloc (Nat.le_refl _) _).alloc (by rw [World.size_alloc]; omega) _)
  have c0w : ((w.alloc (.cells #[.int .i64 a0, .int .i64 a1, .int .i64 a2, .int .i64 a3, .slice A n1 c1] 24)).alloc (.cells #[.int .i64 0, .int .i64 0, .int .i64 0, .int .i64 0, .slice none 0 0] 24)).cell? ⟨b, o, none⟩ = some (.string B) := (HLO.out.cell (p := ⟨b, o, none⟩) hlt).trans hc0
  clear hn1
  go_enter Tryz.func36, Tryz.ntmps36
  go_upto_region 1 with fail
  obtain ⟨v0, hv0⟩ : ∃ v, ((w.alloc (.cells #[.int .i64 a0, .int .i64 a1, .int .i64 a2, .int .i64 a3, .slice A n1 c1] 24)).alloc (.cells #[.int .i64 0, .int .i64 0, .int .i64 0, .int .i64 0, .slice none 0 0] 24)) = v := ⟨_, rfl⟩
  rw [hv0] at HB0 HB1 HLO c0w ⊢
  clear hv0
  have p0 : v0.cell? ⟨w.heap.size, 0, none⟩ = some (.int .i64 a0) := HB0.out.cell 0
  have g0 : v0.cell? ⟨w.heap.size + 1, 0, none⟩ = some (.int .i64 0) := HB1.out.cell 0
  have gf0 := HB1.out.frozen 0
  have p1 : v0.cell? ⟨w.heap.size, 1, none⟩ = some (.int .i64 a1) := HB0.out.cell 1
  have g1 : v0.cell? ⟨w.heap.size + 1, 1, none⟩ = some (.int .i64 0) := HB1.out.cell 1
  have gf1 := HB1.out.frozen 1
  have p2 : v0.cell? ⟨w.heap.size, 2, none⟩ = some (.int .i64 a2) := HB0.out.cell 2
  have g2 : v0.cell? ⟨w.heap.size + 1, 2, none⟩ = some (.int .i64 0) := HB1.out.cell 2
  have gf2 := HB1.out.frozen 2
  have p3 : v0.cell? ⟨w.heap.size, 3, none⟩ = some (.int .i64 a3) := HB0.out.cell 3
  have g3 : v0.cell? ⟨w.heap.size + 1, 3, none⟩ = some (.int .i64 0) := HB1.out.cell 3
  have gf3 := HB1.out.frozen 3
  have p4 : v0.cell? ⟨w.heap.size, 4, none⟩ = some (.slice A n1 c1) := HB0.out.cell 4
  have g4 : v0.cell? ⟨w.heap.size + 1, 4, none⟩ = some (.slice none 0 0) := HB1.out.cell 4
  have gf4 := HB1.out.frozen 4
  try simp only [List.cons_append, List.nil_append]
  have HSZ := Lib.hid HLO.out.size
  have HNU := Lib.hid (rnumbers_ok b (o + 1) 4 (c - 1) [y0, y1, y2, y3] v0 rfl (by omega) (Nat.lt_of_lt_of_le hlt HSZ.out) (fun j z hj => ⟨by
    have := (HLO.out.cell (p := ⟨b, o + (j + 1), none⟩) hlt).trans (HRW.out j z hj).1
    rwa [show o + (j + 1) = o + 1 + j by omega] at this, (HRW.out j z hj).2⟩))
  cases hR : numsO [y0, y1, y2, y3] with
  | none =>
    rw [hR] at HNU
    have hno : withO (Cv.cg ⟨a0, a1, a2, a3, ts, A, c1⟩) true [wTimes, y0, y1, y2, y3] = none := hw.trans (nums4_no hR _)
    go_wp2_with (go_at_call 75; (with_reducible refine HNU.out.mono ?_); rintro e u2 ⟨rfl, hb2⟩; have HB0' := Lib.hid (HB0.out.below hb2 HB0.out.lt); have HB1' := Lib.hid (HB1.out.below hb2 HB1.out.lt); have HL2 := Lib.hid (HLO.out.trans (hb2.mono HSZ.out)); clear hb2 p0 g0 gf0 p1 g1 gf1 p2 g2 gf2 p3 g3 gf3 p4 g4 gf4; have p0 : u2.cell? ⟨w.heap.size, 0, none⟩ = some (.int .i64 a0) := HB0'.out.cell 0; have g0 : u2.cell? ⟨w.heap.size + 1, 0, none⟩ = some (.int .i64 0) := HB1'.out.cell 0; have gf0 := HB1'.out.frozen 0; have p1 : u2.cell? ⟨w.heap.size, 1, none⟩ = some (.int .i64 a1) := HB0'.out.cell 1; have g1 : u2.cell? ⟨w.heap.size + 1, 1, none⟩ = some (.int .i64 0) := HB1'.out.cell 1; have gf1 := HB1'.out.frozen 1; have p2 : u2.cell? ⟨w.heap.size, 2, none⟩ = some (.int .i64 a2) := HB0'.out.cell 2; have g2 : u2.cell? ⟨w.heap.size + 1, 2, none⟩ = some (.int .i64 0) := HB1'.out.cell 2; have gf2 := HB1'.out.frozen 2; have p3 : u2.cell? ⟨w.heap.size, 3, none⟩ = some (.int .i64 a3) := HB0'.out.cell 3; have g3 : u2.cell? ⟨w.heap.size + 1, 3, none⟩ = some (.int .i64 0) := HB1'.out.cell 3; have gf3 := HB1'.out.frozen 3; have p4 : u2.cell? ⟨w.heap.size, 4, none⟩ = some (.slice A n1 c1) := HB0'.out.cell 4; have g4 : u2.cell? ⟨w.heap.size + 1, 4, none⟩ = some (.slice none 0 0) := HB1'.out.cell 4; have gf4 := HB1'.out.frozen 4)
    have kU := (((((HB1'.out.set 0 (.int .i64 a0)).set 1 (.int .i64 a1)).set 2 (.int .i64 a2)).set 3 (.int .i64 a3)).set 4 (.slice A n1 c1))
    simp only [List.setIfInBounds_toArray, List.set_cons_zero, List.set_cons_succ] at kU
    refine bodyPost_ret (v := .tuple #[.agg #[.int .i64 a0, .int .i64 a1, .int .i64 a2, .int .i64 a3, .slice A n1 c1], .bool false]) ?_ rfl ⟨?_, .inl ⟨⟨a0, a1, a2, a3, ts, A, c1⟩, by simp only [ccs, HN1.out], hno⟩⟩
    · have k0 := kU.cell 0; have k1 := kU.cell 1; have k2 := kU.cell 2; have k3 := kU.cell 3; have k4 := kU.cell 4
      simp [results, Tryz.f36, go_sem, k0, k1, k2, k3, k4]
    · exact (((((HL2.out.setCell (p := ⟨w.heap.size + 1, 0, none⟩) (by show w.heap.size ≤ w.heap.size + 1; omega) _).setCell (p := ⟨w.heap.size + 1, 1, none⟩) (by show w.heap.size ≤ w.heap.size + 1; omega) _).setCell (p := ⟨w.heap.size + 1, 2, none⟩) (by show w.heap.size ≤ w.heap.size + 1; omega) _).setCell (p := ⟨w.heap.size + 1, 3, none⟩) (by show w.heap.size ≤ w.heap.size + 1; omega) _).setCell (p := ⟨w.heap.size + 1, 4, none⟩) (by show w.heap.size ≤ w.heap.size + 1; omega) _)
  | some l =>
    obtain ⟨i0, i1, i2, i3, rfl, e0, e1, e2, e3⟩ := nums4 hR
    rw [hR] at HNU
    go_upto_region 8 with (first | (go_at_call 75; (with_reducible refine HNU.out.mono ?_); rintro e u2 ⟨⟨A2, c2, rfl, ho2⟩, hb2⟩) | fail)
    have HB1' := Lib.hid (HB1.out.below hb2 HB1.out.lt)
    have HL2 := Lib.hid (HLO.out.trans (hb2.mono HSZ.out))
    obtain ⟨gA, oA, rfl, hgA, hcA⟩ : ∃ g o', A2 = some ⟨g, o', none⟩ ∧ g < u2.heap.size ∧ ∀ i, (h : i < [i0, i1, i2, i3].length) → ∀ j, j < 1 → u2.cell? ⟨g, o' + i * 1 + j, none⟩ = (ics ([i0, i1, i2, i3][i]))[j]? := by
      rcases Ow.rw_ (k := 1) (f := ics) (fun _ => rfl) ho2 with h | h
      · cases h
      · exact h
    obtain ⟨hA1, hA2, cs, hcs⟩ := ho2.block 0 gA rfl
    have z0 : cs[oA]? = some (.int .i64 (i0 : Int)) := (hcs.cell oA).symm.trans (hcA 0 (by simp) 0 (by simp))
    have z1 : cs[oA + 1]? = some (.int .i64 (i1 : Int)) := (hcs.cell (oA + 1)).symm.trans (hcA 1 (by simp) 0 (by simp))
    have z2 : cs[oA + 2]? = some (.int .i64 (i2 : Int)) := (hcs.cell (oA + 2)).symm.trans (hcA 2 (by simp) 0 (by simp))
    have z3 : cs[oA + 3]? = some (.int .i64 (i3 : Int)) := (hcs.cell (oA + 3)).symm.trans (hcA 3 (by simp) 0 (by simp))
    have hne : gA ≠ w.heap.size + 1 := by have := HB1.out.lt; omega
    clear hcA ho2 hb2
    try simp only [List.cons_append, List.nil_append]
    refine wp_region_held_drew (S := fun u => Bk u gA 2 cs) (by kernel_rfl) (hcs.drew) (fun hHeld => ?_)
    refine tk (some 48) 0 (v := ?_) rfl rfl ?_ hHeld ?_
    rotate_left
    · intro wz hSw; have y0c : wz.cell? ⟨gA, oA, none⟩ = some (.int .i64 (i0 : Int)) := (hSw.cell oA).trans z0; have y1c : wz.cell? ⟨gA, oA + 1, none⟩ = some (.int .i64 (i1 : Int)) := (hSw.cell (oA + 1)).trans z1; have y2c : wz.cell? ⟨gA, oA + 2, none⟩ = some (.int .i64 (i2 : Int)) := (hSw.cell (oA + 2)).trans z2; have y3c : wz.cell? ⟨gA, oA + 3, none⟩ = some (.int .i64 (i3 : Int)) := (hSw.cell (oA + 3)).trans z3; go_simp; try (with_reducible rfl)
    try simp only [lay]
    refine tk (some 49) 1 (v := ?_) rfl rfl ?_ hHeld ?_
    rotate_left
    · intro wz hSw; have y0c : wz.cell? ⟨gA, oA, none⟩ = some (.int .i64 (i0 : Int)) := (hSw.cell oA).trans z0; have y1c : wz.cell? ⟨gA, oA + 1, none⟩ = some (.int .i64 (i1 : Int)) := (hSw.cell (oA + 1)).trans z1; have y2c : wz.cell? ⟨gA, oA + 2, none⟩ = some (.int .i64 (i2 : Int)) := (hSw.cell (oA + 2)).trans z2; have y3c : wz.cell? ⟨gA, oA + 3, none⟩ = some (.int .i64 (i3 : Int)) := (hSw.cell (oA + 3)).trans z3; go_simp; try (with_reducible rfl)
    try simp only [lay]
    refine tk (some 50) 2 (v := ?_) rfl rfl ?_ hHeld ?_
    rotate_left
    · intro wz hSw; have y0c : wz.cell? ⟨gA, oA, none⟩ = some (.int .i64 (i0 : Int)) := (hSw.cell oA).trans z0; have y1c : wz.cell? ⟨gA, oA + 1, none⟩ = some (.int .i64 (i1 : Int)) := (hSw.cell (oA + 1)).trans z1; have y2c : wz.cell? ⟨gA, oA + 2, none⟩ = some (.int .i64 (i2 : Int)) := (hSw.cell (oA + 2)).trans z2; have y3c : wz.cell? ⟨gA, oA + 3, none⟩ = some (.int .i64 (i3 : Int)) := (hSw.cell (oA + 3)).trans z3; go_simp; try (with_reducible rfl)
    try simp only [lay]
    refine tk (some 51) 3 (v := ?_) rfl rfl ?_ hHeld ?_
    rotate_left
    · intro wz hSw; have y0c : wz.cell? ⟨gA, oA, none⟩ = some (.int .i64 (i0 : Int)) := (hSw.cell oA).trans z0; have y1c : wz.cell? ⟨gA, oA + 1, none⟩ = some (.int .i64 (i1 : Int)) := (hSw.cell (oA + 1)).trans z1; have y2c : wz.cell? ⟨gA, oA + 2, none⟩ = some (.int .i64 (i2 : Int)) := (hSw.cell (oA + 2)).trans z2; have y3c : wz.cell? ⟨gA, oA + 3, none⟩ = some (.int .i64 (i3 : Int)) := (hSw.cell (oA + 3)).trans z3; go_simp; try (with_reducible rfl)
    try simp only [lay]
    refine tk (some 52) 4 (v := ?_) rfl rfl ?_ hHeld ?_
    rotate_left
    · intro wz hSw; have y0c : wz.cell? ⟨gA, oA, none⟩ = some (.int .i64 (i0 : Int)) := (hSw.cell oA).trans z0; have y1c : wz.cell? ⟨gA, oA + 1, none⟩ = some (.int .i64 (i1 : Int)) := (hSw.cell (oA + 1)).trans z1; have y2c : wz.cell? ⟨gA, oA + 2, none⟩ = some (.int .i64 (i2 : Int)) := (hSw.cell (oA + 2)).trans z2; have y3c : wz.cell? ⟨gA, oA + 3, none⟩ = some (.int .i64 (i3 : Int)) := (hSw.cell (oA + 3)).trans z3; go_simp; try (with_reducible rfl)
    try simp only [lay]
    refine tk (some 53) 5 (v := ?_) rfl rfl ?_ hHeld ?_
    rotate_left
    · intro wz hSw; have y0c : wz.cell? ⟨gA, oA, none⟩ = some (.int .i64 (i0 : Int)) := (hSw.cell oA).trans z0; have y1c : wz.cell? ⟨gA, oA + 1, none⟩ = some (.int .i64 (i1 : Int)) := (hSw.cell (oA + 1)).trans z1; have y2c : wz.cell? ⟨gA, oA + 2, none⟩ = some (.int .i64 (i2 : Int)) := (hSw.cell (oA + 2)).trans z2; have y3c : wz.cell? ⟨gA, oA + 3, none⟩ = some (.int .i64 (i3 : Int)) := (hSw.cell (oA + 3)).trans z3; go_simp; try (with_reducible rfl)
    try simp only [lay]
    refine tk (some 54) 6 (v := ?_) rfl rfl ?_ hHeld ?_
    rotate_left
    · intro wz hSw; have y0c : wz.cell? ⟨gA, oA, none⟩ = some (.int .i64 (i0 : Int)) := (hSw.cell oA).trans z0; have y1c : wz.cell? ⟨gA, oA + 1, none⟩ = some (.int .i64 (i1 : Int)) := (hSw.cell (oA + 1)).trans z1; have y2c : wz.cell? ⟨gA, oA + 2, none⟩ = some (.int .i64 (i2 : Int)) := (hSw.cell (oA + 2)).trans z2; have y3c : wz.cell? ⟨gA, oA + 3, none⟩ = some (.int .i64 (i3 : Int)) := (hSw.cell (oA + 3)).trans z3; go_simp; try (with_reducible rfl)
    try simp only [lay]
    refine tk (some 55) 7 (v := ?_) rfl rfl ?_ hHeld ?_
    rotate_left
    · intro wz hSw; have y0c : wz.cell? ⟨gA, oA, none⟩ = some (.int .i64 (i0 : Int)) := (hSw.cell oA).trans z0; have y1c : wz.cell? ⟨gA, oA + 1, none⟩ = some (.int .i64 (i1 : Int)) := (hSw.cell (oA + 1)).trans z1; have y2c : wz.cell? ⟨gA, oA + 2, none⟩ = some (.int .i64 (i2 : Int)) := (hSw.cell (oA + 2)).trans z2; have y3c : wz.cell? ⟨gA, oA + 3, none⟩ = some (.int .i64 (i3 : Int)) := (hSw.cell (oA + 3)).trans z3; go_simp; try (with_reducible rfl)
    try simp only [lay]
    refine tk (some 56) 8 (v := ?_) rfl rfl ?_ hHeld ?_
    rotate_left
    · intro wz hSw; have y0c : wz.cell? ⟨gA, oA, none⟩ = some (.int .i64 (i0 : Int)) := (hSw.cell oA).trans z0; have y1c : wz.cell? ⟨gA, oA + 1, none⟩ = some (.int .i64 (i1 : Int)) := (hSw.cell (oA + 1)).trans z1; have y2c : wz.cell? ⟨gA, oA + 2, none⟩ = some (.int .i64 (i2 : Int)) := (hSw.cell (oA + 2)).trans z2; have y3c : wz.cell? ⟨gA, oA + 3, none⟩ = some (.int .i64 (i3 : Int)) := (hSw.cell (oA + 3)).trans z3; go_simp; try (with_reducible rfl)
    try simp only [lay]
    refine tk (some 57) 9 (v := ?_) rfl rfl ?_ hHeld ?_
    rotate_left
    · intro wz hSw; have y0c : wz.cell? ⟨gA, oA, none⟩ = some (.int .i64 (i0 : Int)) := (hSw.cell oA).trans z0; have y1c : wz.cell? ⟨gA, oA + 1, none⟩ = some (.int .i64 (i1 : Int)) := (hSw.cell (oA + 1)).trans z1; have y2c : wz.cell? ⟨gA, oA + 2, none⟩ = some (.int .i64 (i2 : Int)) := (hSw.cell (oA + 2)).trans z2; have y3c : wz.cell? ⟨gA, oA + 3, none⟩ = some (.int .i64 (i3 : Int)) := (hSw.cell (oA + 3)).trans z3; go_simp; try (with_reducible rfl)
    try simp only [lay]
    refine tk (some 58) 10 (v := ?_) rfl rfl ?_ hHeld ?_
    rotate_left
    · intro wz hSw; have y0c : wz.cell? ⟨gA, oA, none⟩ = some (.int .i64 (i0 : Int)) := (hSw.cell oA).trans z0; have y1c : wz.cell? ⟨gA, oA + 1, none⟩ = some (.int .i64 (i1 : Int)) := (hSw.cell (oA + 1)).trans z1; have y2c : wz.cell? ⟨gA, oA + 2, none⟩ = some (.int .i64 (i2 : Int)) := (hSw.cell (oA + 2)).trans z2; have y3c : wz.cell? ⟨gA, oA + 3, none⟩ = some (.int .i64 (i3 : Int)) := (hSw.cell (oA + 3)).trans z3; go_simp; try (with_reducible rfl)
    try simp only [lay]
    refine tk (some 59) 11 (v := ?_) rfl rfl ?_ hHeld ?_
    rotate_left
    · intro wz hSw; have y0c : wz.cell? ⟨gA, oA, none⟩ = some (.int .i64 (i0 : Int)) := (hSw.cell oA).trans z0; have y1c : wz.cell? ⟨gA, oA + 1, none⟩ = some (.int .i64 (i1 : Int)) := (hSw.cell (oA + 1)).trans z1; have y2c : wz.cell? ⟨gA, oA + 2, none⟩ = some (.int .i64 (i2 : Int)) := (hSw.cell (oA + 2)).trans z2; have y3c : wz.cell? ⟨gA, oA + 3, none⟩ = some (.int .i64 (i3 : Int)) := (hSw.cell (oA + 3)).trans z3; go_simp; try (with_reducible rfl)
    try simp only [lay]
    refine tk (some 60) 12 (v := ?_) rfl rfl ?_ hHeld ?_
    rotate_left
    · intro wz hSw; have y0c : wz.cell? ⟨gA, oA, none⟩ = some (.int .i64 (i0 : Int)) := (hSw.cell oA).trans z0; have y1c : wz.cell? ⟨gA, oA + 1, none⟩ = some (.int .i64 (i1 : Int)) := (hSw.cell (oA + 1)).trans z1; have y2c : wz.cell? ⟨gA, oA + 2, none⟩ = some (.int .i64 (i2 : Int)) := (hSw.cell (oA + 2)).trans z2; have y3c : wz.cell? ⟨gA, oA + 3, none⟩ = some (.int .i64 (i3 : Int)) := (hSw.cell (oA + 3)).trans z3; go_simp; try (with_reducible rfl)
    try simp only [lay]
    have HBd := HB1'.out
    have g0 : u2.cell? ⟨w.heap.size + 1, 0, none⟩ = some (.int .i64 0) := HBd.cell 0
    have gf0 := HBd.frozen 0
    have g1 : u2.cell? ⟨w.heap.size + 1, 1, none⟩ = some (.int .i64 0) := HBd.cell 1
    have gf1 := HBd.frozen 1
    have g2 : u2.cell? ⟨w.heap.size + 1, 2, none⟩ = some (.int .i64 0) := HBd.cell 2
    have gf2 := HBd.frozen 2
    have g3 : u2.cell? ⟨w.heap.size + 1, 3, none⟩ = some (.int .i64 0) := HBd.cell 3
    have gf3 := HBd.frozen 3
    have g4 : u2.cell? ⟨w.heap.size + 1, 4, none⟩ = some (.slice none 0 0) := HBd.cell 4
    have gf4 := HBd.frozen 4
    refine wpAnyH_ready (rs := [13]) (by kernel_rfl) (by simp) (AllReadyH.cons rfl (fun K hK => ?_) AllReadyH.nil)
    rw [if_pos (by kernel_rfl)]
    go_simp
    refine hK.out _ _ (((((hcs.far (p := ⟨w.heap.size + 1, 0, none⟩) hne _).far (p := ⟨w.heap.size + 1, 1, none⟩) hne _).far (p := ⟨w.heap.size + 1, 2, none⟩) hne _).far (p := ⟨w.heap.size + 1, 3, none⟩) hne _).far (p := ⟨w.heap.size + 1, 4, none⟩) hne _).drew (fun hHeld => ?_)
    try simp only [lay]
    refine tk (some 7) 14 (v := ?_) rfl rfl ?_ hHeld ?_
    rotate_left
    · intro wz hSw; go_simp; try (with_reducible rfl)
    try simp only [lay]
    refine wpAnyH_done (by kernel_rfl) ?_ _
    refine gen_qL (fun u => Bk u (w.heap.size + 1) 24 #[.int .i64 (i0 : Int), .int .i64 (i1 : Int), .int .i64 (i2 : Int), .int .i64 (i3 : Int), .slice none 0 0] ∧ Below w.heap.size w u) ⟨?_, ?_⟩ (fun y5 hy5 => ?_)
    · have := (((((HB1'.out.set 0 (.int .i64 (i0 : Int))).set 1 (.int .i64 (i1 : Int))).set 2 (.int .i64 (i2 : Int))).set 3 (.int .i64 (i3 : Int))).set 4 (.slice none 0 0)).drew
      simpa only [List.setIfInBounds_toArray, List.set_cons_zero, List.set_cons_succ] using this
    · exact (((((HL2.out.setCell (p := ⟨w.heap.size + 1, 0, none⟩) (by show w.heap.size ≤ w.heap.size + 1; omega) _).setCell (p := ⟨w.heap.size + 1, 1, none⟩) (by show w.heap.size ≤ w.heap.size + 1; omega) _).setCell (p := ⟨w.heap.size + 1, 2, none⟩) (by show w.heap.size ≤ w.heap.size + 1; omega) _).setCell (p := ⟨w.heap.size + 1, 3, none⟩) (by show w.heap.size ≤ w.heap.size + 1; omega) _).setCell (p := ⟨w.heap.size + 1, 4, none⟩) (by show w.heap.size ≤ w.heap.size + 1; omega) _).drew
    obtain ⟨hyB, hyL⟩ := hy5
    clear hHeld
    go_wp2
    refine bodyPost_ret (v := .tuple #[.agg #[.int .i64 (i0 : Int), .int .i64 (i1 : Int), .int .i64 (i2 : Int), .int .i64 (i3 : Int), .slice none 0 0], .bool true]) ?_ rfl ⟨hyL, .inr ⟨⟨i0, i1, i2, i3, [], none, 0⟩, rfl, ?_, ?_⟩⟩
    · have k0 := hyB.cell 0; have k1 := hyB.cell 1; have k2 := hyB.cell 2; have k3 := hyB.cell 3; have k4 := hyB.cell 4
      simp [results, Tryz.f36, go_sem, k0, k1, k2, k3, k4]
    · exact ⟨⟨.inl rfl, fun x hx => by cases hx⟩, ⟨Nat.le_refl _, Nat.zero_le _, fun _ => ⟨rfl, rfl⟩⟩⟩
    · rw [hw]
      unfold readW readTimes
      simp [e0, e1, e2, e3, Cv.cg]
      exact hts
end Go.Proofs.YtekobdmlgbffnaaGreatDoor

/- strings.Cut at a mark of one byte; syntax.pieces: what it makes. -/
namespace Go.Proofs.YtekobdmlgbffnaaGreatDoor
set_option linter.unusedVariables false
set_option maxRecDepth 100000
set_option linter.unusedSimpArgs false
open Go.RowKit

theorem ex_take (s : ByteArray) (i : Nat) : s.extract 0 i = bs (s.data.toList.take i) := by
  rw [Go.Lib.extract_eq]; simp [bs]
theorem ex_drop (s : ByteArray) (i : Nat) (h : i ≤ s.size) : s.extract i s.size = bs (s.data.toList.drop i) := by
  rw [Go.Lib.extract_eq]
  have ht : List.take (s.size - i) (List.drop i s.data.toList) = List.drop i s.data.toList :=
    List.take_of_length_le (by rw [List.length_drop]; exact Nat.le_refl _)
  rw [ht]; rfl

def cutV (c : UInt8) (s : ByteArray) : Value := .tuple #[.string (bs (cutL c s.data.toList).1), .string (bs (cutL c s.data.toList).2.1), .bool (cutL c s.data.toList).2.2]

set_option maxHeartbeats 1000000 in
theorem lcut_ok (s : ByteArray) (c : UInt8) (w : World) (hs : s.size ≤ 140737488355328) :
    Calls Tryz.prog 111 #[.string s, .string ⟨#[c]⟩] w fun e w' => e = .returned (cutV c s) ∧ ∃ n, w' = w.drewN n := by
  unfold cutV
  rcases cutL_index c s.data.toList with ⟨hx, hc⟩ | ⟨i, hx, hi, hc⟩
  · rw [hc]
    have HX := Lib.hid hx
    clear hx hc
    go_enter Tryz.func111, Tryz.ntmps111
    go_wp2_with (go_at_call 134; refine (Tryz.stringslite_Index_one _ _ _).mono ?_; rintro e w' ⟨rfl, rfl⟩; rw [HX.out])
    go_ret3
    exact ⟨by rw [bs_of]; rfl, 0, rfl⟩
  · rw [hc]
    have HX := Lib.hid hx
    have hi2 : i < s.size := hi
    have HT := Lib.hid (ex_take s i)
    have HD := Lib.hid (ex_drop s (i + 1) (by omega))
    have c1 : (0 : Int) ≤ ↑i := by omega
    have c2 : (↑i : Int) ≤ ↑s.size := by omega
    have c3 : (0 : Int) ≤ ↑i + 1 := by omega
    have c4 : (↑i + 1 : Int) ≤ ↑s.size := by omega
    clear hx hc
    go_enter Tryz.func111, Tryz.ntmps111
    go_wp2_with (go_at_call 134; refine (Tryz.stringslite_Index_one _ _ _).mono ?_; rintro e w' ⟨rfl, rfl⟩; rw [HX.out])
    go_quiet (fail)
    go_wp2
    go_ret3
    exact ⟨by rw [← HT.out, ← HD.out]; rfl, nq, rfl⟩

set_option maxHeartbeats 400000 in
theorem cut_ok (s : ByteArray) (c : UInt8) (w : World) (hs : s.size ≤ 140737488355328) :
    Calls Tryz.prog 73 #[.string s, .string ⟨#[c]⟩] w fun e w' => e = .returned (cutV c s) ∧ ∃ n, w' = w.drewN n := by
  go_enter Tryz.func73, Tryz.ntmps73
  go_wp2_with (go_at_call 111; refine (lcut_ok _ _ _ hs).mono ?_; rintro e w' ⟨rfl, n, rfl⟩; unfold cutV)
  go_ret3
  exact ⟨rfl, n, rfl⟩

set_option maxHeartbeats 400000 in
theorem pieces_ok (s m : ByteArray) (w : World) :
    Calls Tryz.prog 130 #[.string s, .string m] w fun e w' => e = .returned (.func (.func 148) #[] #[.pointer (some ⟨w.heap.size, 0, none⟩), .pointer (some ⟨w.heap.size + 1, 0, none⟩)]) ∧
      w' = (w.alloc (.cells #[.string s] 9)).alloc (.cells #[.string m] 9) := by
  have h : ∀ (fn : Fn) (first cap : Array Value) (w : World), (Instr.makeFunc fn first cap).run Tryz.prog w = .ok (.func fn first cap) w := fun _ _ _ _ => rfl
  go_enter Tryz.func130, Tryz.ntmps130
  go_wp2
  go_ret
  exact ⟨rfl, rfl⟩
end Go.Proofs.YtekobdmlgbffnaaGreatDoor

/- Nets within nets: plain mathematics. -/
namespace Go.Proofs.YtekobdmlgbffnaaGreatDoor
set_option linter.unusedVariables false
set_option maxRecDepth 100000
set_option linter.unusedSimpArgs false

end Go.Proofs.YtekobdmlgbffnaaGreatDoor

/- A net's halves; an address with a bit turned: plain mathematics. -/
namespace Go.Proofs.YtekobdmlgbffnaaGreatDoor
set_option linter.unusedVariables false
set_option maxRecDepth 100000
set_option linter.unusedSimpArgs false

theorem first_none (a : Nat) (ha : a < 4294967296) : firstN 0 a = 0 := by
  unfold firstN
  rw [Nat.div_eq_of_lt (by show a < 2 ^ 32; exact ha), Nat.zero_mul]
end Go.Proofs.YtekobdmlgbffnaaGreatDoor
