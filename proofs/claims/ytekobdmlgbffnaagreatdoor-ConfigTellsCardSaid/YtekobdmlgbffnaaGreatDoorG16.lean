/- CgP2, CgP3: texts of this seat, one behind the other. -/
import Derived.Test.YtekobdmlgbffnaaGreatDoorG15
import Derived.BigQuiet
import Derived.Deep.QuietTactic
import Derived.Test.YtekobdmlgbffnaaGreatDoorG13
import Derived.BigRegion
import Derived.Test.YtekobdmlgbffnaaGreatDoorG4
/- (*reading).times: its contract. (Written by gen_cgp2.py.) -/
namespace Go.Proofs.YtekobdmlgbffnaaGreatDoor
set_option linter.unusedVariables false
set_option maxRecDepth 100000
set_option linter.unusedSimpArgs false
open Go.RowKit

/-- How far the times were read. -/
def TimR (l0 l1 l2 l3 : List UInt8) (x x' : Cv) (i : Nat) : Prop := x'.ts = x.ts ∧ x'.A = x.A ∧ x'.c = x.c ∧ (1 ≤ i → ∃ n, decO l0 = some n ∧ x'.wait = (n : Int)) ∧ (2 ≤ i → ∃ n, decO l1 = some n ∧ x'.grace = (n : Int)) ∧ (3 ≤ i → ∃ n, decO l2 = some n ∧ x'.idle = (n : Int)) ∧ (4 ≤ i → ∃ n, decO l3 = some n ∧ x'.lease = (n : Int))
theorem TimR.start (l0 l1 l2 l3 : List UInt8) (x : Cv) : TimR l0 l1 l2 l3 x x 0 := ⟨rfl, rfl, rfl, by omega, by omega, by omega, by omega⟩
theorem TimR.s0 {l0 l1 l2 l3 : List UInt8} {x x' : Cv} (h : TimR l0 l1 l2 l3 x x' 0) {n : Nat} (hn : decO l0 = some n) : TimR l0 l1 l2 l3 x (x'.setT 0 (n : Int)) 1 := ⟨h.1, h.2.1, h.2.2.1, fun _ => ⟨n, hn, rfl⟩, by omega, by omega, by omega⟩
theorem TimR.s1 {l0 l1 l2 l3 : List UInt8} {x x' : Cv} (h : TimR l0 l1 l2 l3 x x' 1) {n : Nat} (hn : decO l1 = some n) : TimR l0 l1 l2 l3 x (x'.setT 1 (n : Int)) 2 := ⟨h.1, h.2.1, h.2.2.1, fun _ => h.2.2.2.1 (by omega), fun _ => ⟨n, hn, rfl⟩, by omega, by omega⟩
theorem TimR.s2 {l0 l1 l2 l3 : List UInt8} {x x' : Cv} (h : TimR l0 l1 l2 l3 x x' 2) {n : Nat} (hn : decO l2 = some n) : TimR l0 l1 l2 l3 x (x'.setT 2 (n : Int)) 3 := ⟨h.1, h.2.1, h.2.2.1, fun _ => h.2.2.2.1 (by omega), fun _ => h.2.2.2.2.1 (by omega), fun _ => ⟨n, hn, rfl⟩, by omega⟩
theorem TimR.s3 {l0 l1 l2 l3 : List UInt8} {x x' : Cv} (h : TimR l0 l1 l2 l3 x x' 3) {n : Nat} (hn : decO l3 = some n) : TimR l0 l1 l2 l3 x (x'.setT 3 (n : Int)) 4 := ⟨h.1, h.2.1, h.2.2.1, fun _ => h.2.2.2.1 (by omega), fun _ => h.2.2.2.2.1 (by omega), fun _ => h.2.2.2.2.2.1 (by omega), fun _ => ⟨n, hn, rfl⟩⟩
theorem TimR.all {l0 l1 l2 l3 : List UInt8} {x x' : Cv} (h : TimR l0 l1 l2 l3 x x' 4) : readTimes x.cg [l0, l1, l2, l3] = some x'.cg := by
  obtain ⟨h1, _, _, k0, k1, k2, k3⟩ := h
  obtain ⟨n0, a0, b0⟩ := k0 (by omega)
  obtain ⟨n1, a1, b1⟩ := k1 (by omega)
  obtain ⟨n2, a2, b2⟩ := k2 (by omega)
  obtain ⟨n3, a3, b3⟩ := k3 (by omega)
  simp only [readTimes, a0, a1, a2, a3, Cv.cg, h1, b0, b1, b2, b3]
theorem times_none {l0 l1 l2 l3 : List UInt8} {c : Cg} (h : decO l0 = none ∨ decO l1 = none ∨ decO l2 = none ∨ decO l3 = none) : okC (readTimes c [l0, l1, l2, l3]) = none := by
  have : readTimes c [l0, l1, l2, l3] = none := by
    simp only [readTimes]
    rcases h with h | h | h | h <;> rw [h]
    · cases decO l0 <;> rfl
    · cases decO l0 <;> cases decO l1 <;> rfl
    · cases decO l0 <;> cases decO l1 <;> cases decO l2 <;> rfl
  rw [this]; rfl
theorem decO_none {l : List UInt8} (h : decO l = none) : parseS (bs l) = none := by
  unfold decO at h
  cases hp : parseS (bs l) with
  | none => rfl
  | some p => rw [hp] at h; cases h
theorem decO_some {l : List UInt8} {n : Nat} (h : decO l = some n) : parE (parseS (bs l)) = .returned (.tuple #[.int .i64 (n : Int), .bool true]) := by
  unfold decO at h
  cases hp : parseS (bs l) with
  | none => rw [hp] at h; cases h
  | some p =>
    obtain ⟨m, k⟩ := p
    rw [hp] at h
    obtain rfl : m = n := by injection h
    rfl
theorem Sc.drewN {u : World} {B r E : Nat} {x : Cv} (h : Sc u B r E x) (n : Nat) : Sc (u.drewN n) B r E x :=
  ⟨h.blk, h.row.keep fun g cs _ hb => hb, fun T y e => ⟨fun z hz => ⟨((h.old T y e).1 z hz).n.keep (Nat.le_refl _) (fun g cs _ hb => hb), ((h.old T y e).1 z hz).k.keep (Nat.le_refl _) (fun g cs _ hb => hb), ((h.old T y e).1 z hz).fn, ((h.old T y e).1 z hz).fk⟩, ⟨(h.old T y e).2.n.keep fun g cs _ hb => hb, (h.old T y e).2.k.keep fun g cs _ hb => hb⟩⟩, h.rB, h.BE, h.ES, h.sm⟩
theorem Ch.drewN {B r : Nat} {u u' : World} (h : Ch B r u u') (n : Nat) : Ch B r u (u'.drewN n) := ⟨h.os, h.tape, h.output, h.size, h.low, ⟨h.oth.size, h.oth.same⟩⟩
theorem Wd.drewN {u : World} {B b o : Nat} {L : List ByteArray} (h : Wd u B b o L) (n : Nat) : Wd (u.drewN n) B b o L := ⟨h.hb, h.bk, h.at_⟩

/-- What a line's reading leaves. -/
structure Rv (u : World) (B r : Nat) (o : Option Cg) (e : Ending) (u' : World) : Prop where
  ex : ∃ v, e = .returned (.bool v) ∧ (v = true → ∃ E' x', Sc u' B r E' x' ∧ o = some x'.cg) ∧ (v = false → okC o = none)
  ch : Ch B r u u'

set_option maxRecDepth 100000 in
set_option maxHeartbeats 8000000 in
theorem times_ok (u : World) (B r E : Nat) (x : Cv) (b o cw : Nat) (l0 l1 l2 l3 : List UInt8) (h : Sc u B r E x) (hw : Wd u B b o [bs l0, bs l1, bs l2, bs l3]) (z0 : l0.length ≤ 140737488355328) (z1 : l1.length ≤ 140737488355328) (z2 : l2.length ≤ 140737488355328) (z3 : l3.length ≤ 140737488355328) :
    Calls Tryz.prog 68 #[.pointer (some ⟨r, 0, none⟩), .slice (some ⟨b, o, none⟩) 4 cw] u (Rv u B r (readTimes x.cg [l0, l1, l2, l3])) := by
  have HS := Lib.hid h
  have HW := Lib.hid hw
  have HP := Lib.hid (show (∀ w, Calls Tryz.prog 106 #[.string (bs l0)] w fun e w' => e = parE (parseS (bs l0)) ∧ Below w.heap.size w w') ∧ (∀ w, Calls Tryz.prog 106 #[.string (bs l1)] w fun e w' => e = parE (parseS (bs l1)) ∧ Below w.heap.size w w') ∧ (∀ w, Calls Tryz.prog 106 #[.string (bs l2)] w fun e w' => e = parE (parseS (bs l2)) ∧ Below w.heap.size w w') ∧ (∀ w, Calls Tryz.prog 106 #[.string (bs l3)] w fun e w' => e = parE (parseS (bs l3)) ∧ Below w.heap.size w w') from
    ⟨fun w => parse_ok _ w (by rw [bs_size]; exact z0), fun w => parse_ok _ w (by rw [bs_size]; exact z1), fun w => parse_ok _ w (by rw [bs_size]; exact z2), fun w => parse_ok _ w (by rw [bs_size]; exact z3)⟩)
  clear h hw z0 z1 z2 z3
  go_enter Tryz.func68, Tryz.ntmps68
  go_wp2_with fail
  go_quiet (fail)
  go_wp2_with fail
  go_loopw [26] (fun v26 wr => ∃ (i : Nat) (x' : Cv), i ≤ 4 ∧ v26 = .int .i64 (i : Int) ∧ Hid (Sc wr B r E x') ∧ Hid (Ch B r u wr) ∧ Hid (Wd wr B b o [bs l0, bs l1, bs l2, bs l3]) ∧ Hid (TimR l0 l1 l2 l3 x x' i)) (fun v26 _ => 4 - (intOf v26).toNat)
  case atStart => exact ⟨0, x, by omega, rfl, Lib.hid (HS.out.drewN _), Lib.hid ((Ch.refl _ _ _).drewN _), Lib.hid (HW.out.drewN _), Lib.hid (TimR.start _ _ _ _ _)⟩
  case round =>
    obtain ⟨i, x', hi, rfl, HB, HC, HWr, HT⟩ := hrel
    clear HS HW
    match i, hi with
    | 0, _ =>
      have HPk := Lib.hid (HP.out.1)
      have cw0 : wr.cell? ⟨b, o, none⟩ = some (.string (bs l0)) := HWr.out.at_ 0 (by simp)
      cases hd : decO l0 with
      | none =>
        rw [decO_none hd] at HPk
        simp only [parE] at HPk
        have HN := Lib.hid (show okC (readTimes x.cg [l0, l1, l2, l3]) = none from times_none (.inl hd))
        clear hd
        go_wp2_with (first | (refine wpList_index rfl 170 (.tmp 25) (.tmp 26) rfl _ _ (.pointer (some ⟨r, 0, none⟩)) rfl rfl (run_idx 170 169 4 _ 0 _ Tryz.underlying170 Tryz.isAgg169 Tryz.sizeOf169 (by omega) rfl _) ?_) | (go_at_call 106; refine (HPk.out _).mono ?_; rintro e w2 ⟨rfl, hb2⟩; have HB2 := Lib.hid (HB.out.on hb2); have HC2 := Lib.hid (HC.out.trans (Ch.of hb2)); have HW2 := Lib.hid (HWr.out.on hb2); clear hb2; have c0 := HB2.out.blk.cell 0; have f0 := HB2.out.blk.frozen 0; simp only [ccs, List.getElem?_toArray, List.getElem?_cons_zero, List.getElem?_cons_succ] at c0))
        go_ret
        exact ⟨⟨false, rfl, (fun hh => by cases hh), fun _ => HN.out⟩, HC2.out⟩
      | some m =>
        rw [decO_some hd] at HPk
        have HT2 := Lib.hid (HT.out.s0 hd)
        clear hd
        go_wp2_with (first | (refine wpList_index rfl 170 (.tmp 25) (.tmp 26) rfl _ _ (.pointer (some ⟨r, 0, none⟩)) rfl rfl (run_idx 170 169 4 _ 0 _ Tryz.underlying170 Tryz.isAgg169 Tryz.sizeOf169 (by omega) rfl _) ?_) | (go_at_call 106; refine (HPk.out _).mono ?_; rintro e w2 ⟨rfl, hb2⟩; have HB2 := Lib.hid (HB.out.on hb2); have HC2 := Lib.hid (HC.out.trans (Ch.of hb2)); have HW2 := Lib.hid (HWr.out.on hb2); clear hb2; have c0 := HB2.out.blk.cell 0; have f0 := HB2.out.blk.frozen 0; simp only [ccs, List.getElem?_toArray, List.getElem?_cons_zero, List.getElem?_cons_succ] at c0))
        go_roundw
        case rel => exact ⟨1, x'.setT 0 (m : Int), by omega, by go_num, Lib.hid (HB2.out.setT 0 (by omega) _), Lib.hid (HC2.out.trans (Ch.set _ (p := ⟨r, 0, none⟩) (.inl rfl) _)), Lib.hid (HW2.out.set HB2.out.rB _), HT2⟩
        case measure => simp [intOf]
    | 1, _ =>
      have HPk := Lib.hid (HP.out.2.1)
      have cw0 : wr.cell? ⟨b, o + 1, none⟩ = some (.string (bs l1)) := HWr.out.at_ 1 (by simp)
      cases hd : decO l1 with
      | none =>
        rw [decO_none hd] at HPk
        simp only [parE] at HPk
        have HN := Lib.hid (show okC (readTimes x.cg [l0, l1, l2, l3]) = none from times_none (.inr (.inl hd)))
        clear hd
        go_wp2_with (first | (refine wpList_index rfl 170 (.tmp 25) (.tmp 26) rfl _ _ (.pointer (some ⟨r, 1, none⟩)) rfl rfl (run_idx 170 169 4 _ 1 _ Tryz.underlying170 Tryz.isAgg169 Tryz.sizeOf169 (by omega) rfl _) ?_) | (go_at_call 106; refine (HPk.out _).mono ?_; rintro e w2 ⟨rfl, hb2⟩; have HB2 := Lib.hid (HB.out.on hb2); have HC2 := Lib.hid (HC.out.trans (Ch.of hb2)); have HW2 := Lib.hid (HWr.out.on hb2); clear hb2; have c0 := HB2.out.blk.cell 1; have f0 := HB2.out.blk.frozen 1; simp only [ccs, List.getElem?_toArray, List.getElem?_cons_zero, List.getElem?_cons_succ] at c0))
        go_ret
        exact ⟨⟨false, rfl, (fun hh => by cases hh), fun _ => HN.out⟩, HC2.out⟩
      | some m =>
        rw [decO_some hd] at HPk
        have HT2 := Lib.hid (HT.out.s1 hd)
        clear hd
        go_wp2_with (first | (refine wpList_index rfl 170 (.tmp 25) (.tmp 26) rfl _ _ (.pointer (some ⟨r, 1, none⟩)) rfl rfl (run_idx 170 169 4 _ 1 _ Tryz.underlying170 Tryz.isAgg169 Tryz.sizeOf169 (by omega) rfl _) ?_) | (go_at_call 106; refine (HPk.out _).mono ?_; rintro e w2 ⟨rfl, hb2⟩; have HB2 := Lib.hid (HB.out.on hb2); have HC2 := Lib.hid (HC.out.trans (Ch.of hb2)); have HW2 := Lib.hid (HWr.out.on hb2); clear hb2; have c0 := HB2.out.blk.cell 1; have f0 := HB2.out.blk.frozen 1; simp only [ccs, List.getElem?_toArray, List.getElem?_cons_zero, List.getElem?_cons_succ] at c0))
        go_roundw
        case rel => exact ⟨2, x'.setT 1 (m : Int), by omega, by go_num, Lib.hid (HB2.out.setT 1 (by omega) _), Lib.hid (HC2.out.trans (Ch.set _ (p := ⟨r, 1, none⟩) (.inl rfl) _)), Lib.hid (HW2.out.set HB2.out.rB _), HT2⟩
        case measure => simp [intOf]
    | 2, _ =>
      have HPk := Lib.hid (HP.out.2.2.1)
      have cw0 : wr.cell? ⟨b, o + 2, none⟩ = some (.string (bs l2)) := HWr.out.at_ 2 (by simp)
      cases hd : decO l2 with
      | none =>
        rw [decO_none hd] at HPk
        simp only [parE] at HPk
        have HN := Lib.hid (show okC (readTimes x.cg [l0, l1, l2, l3]) = none from times_none (.inr (.inr (.inl hd))))
        clear hd
        go_wp2_with (first | (refine wpList_index rfl 170 (.tmp 25) (.tmp 26) rfl _ _ (.pointer (some ⟨r, 2, none⟩)) rfl rfl (run_idx 170 169 4 _ 2 _ Tryz.underlying170 Tryz.isAgg169 Tryz.sizeOf169 (by omega) rfl _) ?_) | (go_at_call 106; refine (HPk.out _).mono ?_; rintro e w2 ⟨rfl, hb2⟩; have HB2 := Lib.hid (HB.out.on hb2); have HC2 := Lib.hid (HC.out.trans (Ch.of hb2)); have HW2 := Lib.hid (HWr.out.on hb2); clear hb2; have c0 := HB2.out.blk.cell 2; have f0 := HB2.out.blk.frozen 2; simp only [ccs, List.getElem?_toArray, List.getElem?_cons_zero, List.getElem?_cons_succ] at c0))
        go_ret
        exact ⟨⟨false, rfl, (fun hh => by cases hh), fun _ => HN.out⟩, HC2.out⟩
      | some m =>
        rw [decO_some hd] at HPk
        have HT2 := Lib.hid (HT.out.s2 hd)
        clear hd
        go_wp2_with (first | (refine wpList_index rfl 170 (.tmp 25) (.tmp 26) rfl _ _ (.pointer (some ⟨r, 2, none⟩)) rfl rfl (run_idx 170 169 4 _ 2 _ Tryz.underlying170 Tryz.isAgg169 Tryz.sizeOf169 (by omega) rfl _) ?_) | (go_at_call 106; refine (HPk.out _).mono ?_; rintro e w2 ⟨rfl, hb2⟩; have HB2 := Lib.hid (HB.out.on hb2); have HC2 := Lib.hid (HC.out.trans (Ch.of hb2)); have HW2 := Lib.hid (HWr.out.on hb2); clear hb2; have c0 := HB2.out.blk.cell 2; have f0 := HB2.out.blk.frozen 2; simp only [ccs, List.getElem?_toArray, List.getElem?_cons_zero, List.getElem?_cons_succ] at c0))
        go_roundw
        case rel => exact ⟨3, x'.setT 2 (m : Int), by omega, by go_num, Lib.hid (HB2.out.setT 2 (by omega) _), Lib.hid (HC2.out.trans (Ch.set _ (p := ⟨r, 2, none⟩) (.inl rfl) _)), Lib.hid (HW2.out.set HB2.out.rB _), HT2⟩
        case measure => simp [intOf]
    | 3, _ =>
      have HPk := Lib.hid (HP.out.2.2.2)
      have cw0 : wr.cell? ⟨b, o + 3, none⟩ = some (.string (bs l3)) := HWr.out.at_ 3 (by simp)
      cases hd : decO l3 with
      | none =>
        rw [decO_none hd] at HPk
        simp only [parE] at HPk
        have HN := Lib.hid (show okC (readTimes x.cg [l0, l1, l2, l3]) = none from times_none (.inr (.inr (.inr hd))))
        clear hd
        go_wp2_with (first | (refine wpList_index rfl 170 (.tmp 25) (.tmp 26) rfl _ _ (.pointer (some ⟨r, 3, none⟩)) rfl rfl (run_idx 170 169 4 _ 3 _ Tryz.underlying170 Tryz.isAgg169 Tryz.sizeOf169 (by omega) rfl _) ?_) | (go_at_call 106; refine (HPk.out _).mono ?_; rintro e w2 ⟨rfl, hb2⟩; have HB2 := Lib.hid (HB.out.on hb2); have HC2 := Lib.hid (HC.out.trans (Ch.of hb2)); have HW2 := Lib.hid (HWr.out.on hb2); clear hb2; have c0 := HB2.out.blk.cell 3; have f0 := HB2.out.blk.frozen 3; simp only [ccs, List.getElem?_toArray, List.getElem?_cons_zero, List.getElem?_cons_succ] at c0))
        go_ret
        exact ⟨⟨false, rfl, (fun hh => by cases hh), fun _ => HN.out⟩, HC2.out⟩
      | some m =>
        rw [decO_some hd] at HPk
        have HT2 := Lib.hid (HT.out.s3 hd)
        clear hd
        go_wp2_with (first | (refine wpList_index rfl 170 (.tmp 25) (.tmp 26) rfl _ _ (.pointer (some ⟨r, 3, none⟩)) rfl rfl (run_idx 170 169 4 _ 3 _ Tryz.underlying170 Tryz.isAgg169 Tryz.sizeOf169 (by omega) rfl _) ?_) | (go_at_call 106; refine (HPk.out _).mono ?_; rintro e w2 ⟨rfl, hb2⟩; have HB2 := Lib.hid (HB.out.on hb2); have HC2 := Lib.hid (HC.out.trans (Ch.of hb2)); have HW2 := Lib.hid (HWr.out.on hb2); clear hb2; have c0 := HB2.out.blk.cell 3; have f0 := HB2.out.blk.frozen 3; simp only [ccs, List.getElem?_toArray, List.getElem?_cons_zero, List.getElem?_cons_succ] at c0))
        go_roundw
        case rel => exact ⟨4, x'.setT 3 (m : Int), by omega, by go_num, Lib.hid (HB2.out.setT 3 (by omega) _), Lib.hid (HC2.out.trans (Ch.set _ (p := ⟨r, 3, none⟩) (.inl rfl) _)), Lib.hid (HW2.out.set HB2.out.rB _), HT2⟩
        case measure => simp [intOf]
    | 4, _ =>
      go_wp2_with fail
      go_ret
      exact ⟨⟨true, rfl, fun _ => ⟨E, x', HB.out, HT.out.all⟩, fun hh => by cases hh⟩, HC.out⟩
    | i + 5, hi => omega
end Go.Proofs.YtekobdmlgbffnaaGreatDoor

/- (*reading).tenant: its contract. -/
namespace Go.Proofs.YtekobdmlgbffnaaGreatDoor
set_option linter.unusedVariables false
set_option maxRecDepth 100000
set_option linter.unusedSimpArgs false
open Go.RowKit

theorem fewO_some {l : List UInt8} {n : Nat} (h : fewO (bs l) = some n) : decO l = some n ∧ n ≤ 8 := by
  unfold fewO at h
  unfold decO
  cases hp : parseS (bs l) with
  | none => rw [hp] at h; cases h
  | some p =>
    obtain ⟨m, k⟩ := p
    rw [hp] at h
    simp only at h
    by_cases h8 : m ≤ 8
    · rw [if_pos h8] at h
      obtain rfl : m = n := by injection h
      exact ⟨rfl, h8⟩
    · rw [if_neg h8] at h; cases h
theorem fewO_none {l : List UInt8} (h : fewO (bs l) = none) : ∀ n, decO l = some n → 8 < n := by
  intro n hn
  unfold fewO at h
  unfold decO at hn
  cases hp : parseS (bs l) with
  | none => rw [hp] at hn; cases hn
  | some p =>
    obtain ⟨m, k⟩ := p
    rw [hp] at h hn
    obtain rfl : m = n := by injection hn
    simp only at h
    by_cases h8 : m ≤ 8
    · rw [if_pos h8] at h; cases h
    · omega
theorem tenant_some {c : Cg} {l0 l1 l2 : List UInt8} {a d : Nat} (h1 : fewO (bs l1) = some a) (h2 : fewO (bs l2) = some d) : readTenant c [l0, l1, l2] = some { c with tens := c.tens ++ [⟨bs l0, a, d, [], []⟩] } := by
  simp only [readTenant, (fewO_some h1).1, (fewO_some h2).1]
theorem some_of {v : Option Nat} {d : Nat} (h : v.getD 0 = d) (hs : v.isSome = true) : v = some d := by cases v <;> simp_all
theorem okC_bad {c : Cg} {t : Tn} (h : tenB t = false) : okC (some { c with tens := c.tens ++ [t] }) = none := by
  have : ¬ cfgB { c with tens := c.tens ++ [t] } = true := fun hh => by
    have := (cfgB_parts hh).2.2.2.2.2.2 t (by simp)
    rw [h] at this; cases this
  simp only [okC, if_neg this]
theorem tenant_none {c : Cg} {l0 l1 l2 : List UInt8} (h : fewO (bs l1) = none ∨ fewO (bs l2) = none) : okC (readTenant c [l0, l1, l2]) = none := by
  simp only [readTenant]
  cases h1 : decO l1 with
  | none => rfl
  | some a =>
    cases h2 : decO l2 with
    | none => rfl
    | some d =>
      simp only
      refine okC_bad ?_
      rcases h with h | h
      · have := fewO_none h a h1
        have hq : quoB (a : Int) = false := by unfold quoB; simp; omega
        simp [tenB, hq]
      · have := fewO_none h d h2
        have hq : quoB (d : Int) = false := by unfold quoB; simp; omega
        simp [tenB, hq]

set_option maxRecDepth 100000 in
set_option maxHeartbeats 8000000 in
theorem tenant_ok (u : World) (B r E : Nat) (x : Cv) (b o cw : Nat) (l0 l1 l2 : List UInt8) (h : Sc u B r E x) (hx : x.ts.length ≤ 8) (hw : Wd u B b o [bs l0, bs l1, bs l2]) (z0 : l0.length ≤ 140737488355328) (z1 : l1.length ≤ 140737488355328) (z2 : l2.length ≤ 140737488355328) :
    Calls Tryz.prog 69 #[.pointer (some ⟨r, 0, none⟩), .slice (some ⟨b, o, none⟩) 3 cw] u (Rv u B r (readTenant x.cg [l0, l1, l2])) := by
  have HZ0 := Lib.hid (show (bs l0).size ≤ 140737488355328 by rw [bs_size]; exact z0)
  have HF1 := Lib.hid (fun w => few_ok (bs l1) w (by rw [bs_size]; exact z1))
  have HF2 := Lib.hid (fun w => few_ok (bs l2) w (by rw [bs_size]; exact z2))
  obtain ⟨a0, a1, a2, a3, ts, A, c⟩ := x
  dsimp only at hx
  obtain ⟨n, hn⟩ : ∃ n, ts.length = n := ⟨_, rfl⟩
  have HS := Lib.hid h
  have HW := Lib.hid hw
  have w1 : u.cell? ⟨b, o + 1, none⟩ = some (.string (bs l1)) := hw.at_ 1 (by simp)
  obtain ⟨v1, hv1⟩ : ∃ v, fewO (bs l1) = v := ⟨_, rfl⟩
  obtain ⟨v2, hv2⟩ : ∃ v, fewO (bs l2) = v := ⟨_, rfl⟩
  rw [hv1] at HF1
  rw [hv2] at HF2
  have HO := Lib.hid (And.intro hv1 hv2)
  obtain ⟨d1, hd1⟩ : ∃ d, v1.getD 0 = d := ⟨_, rfl⟩
  obtain ⟨d2, hd2⟩ : ∃ d, v2.getD 0 = d := ⟨_, rfl⟩
  obtain ⟨s1, hs1⟩ : ∃ d, v1.isSome = d := ⟨_, rfl⟩
  obtain ⟨s2, hs2⟩ : ∃ d, v2.isSome = d := ⟨_, rfl⟩
  rw [hd1, hs1] at HF1
  rw [hd2, hs2] at HF2
  have HD := Lib.hid (And.intro (And.intro hd1 hs1) (And.intro hd2 hs2))
  have HN := Lib.hid hn
  rw [hn] at hx
  clear h hw hv1 hv2 hd1 hd2 hs1 hs2 hn z0 z1 z2
  go_enter Tryz.func69, Tryz.ntmps69
  go_upto_region 3 with (go_at_call 107; first | ((with_reducible refine (HF1.out _).mono ?_); rintro e u1 ⟨rfl, hb1⟩; have HS1 := Lib.hid (HS.out.on hb1); have HW1 := Lib.hid (HW.out.on hb1); have HC1 := Lib.hid (Ch.of (B := B) (r := r) hb1); clear hb1; have w2 : u1.cell? ⟨b, o + 2, none⟩ = some (.string (bs l2)) := HW1.out.at_ 2 (by simp)) | ((with_reducible refine (HF2.out _).mono ?_); rintro e u2 ⟨rfl, hb2⟩; have HS2 := Lib.hid (HS1.out.on hb2); have HW2 := Lib.hid (HW1.out.on hb2); have HC2 := Lib.hid (HC1.out.trans (Ch.of hb2)); clear hb2))
  have w0 : u2.cell? ⟨b, o, none⟩ = some (.string (bs l0)) := HW2.out.at_ 0 (by simp)
  have c4 : u2.cell? ⟨r, 4, none⟩ = some (.slice A n c) := (HS2.out.blk.cell 4).trans (by rw [← HN.out]; rfl)
  clear w1 w2
  have HSD := Lib.hid (show Sc u2.drew B r E ⟨a0, a1, a2, a3, ts, A, c⟩ from HS2.out.drewN 1)
  have HCD := Lib.hid (show Ch B r u u2.drew from HC2.out.drewN 1)
  have hbB := HW2.out.hb
  have hbl := HW2.out.lt
  have HSA := Lib.hid (show Sc (u2.drew.alloc (.cells #[.string (bs l0), .int .i64 (d1 : Int), .int .i64 (d2 : Int), .slice none 0 0, .slice none 0 0] 33)) B r E ⟨a0, a1, a2, a3, ts, A, c⟩ from HSD.out.on ((Below.refl _ _).alloc (Nat.le_refl _) _))
  have HWB := Lib.hid (show (Value.slice A n c).ownBlock = some b → False from fun e => by
    obtain ⟨_, _, cs, k1⟩ := HSA.out.row.block n b e
    obtain ⟨cs2, k2⟩ := HW2.out.bk
    exact k1.ty ((k2.drew).alloc (.cells #[.string (bs l0), .int .i64 (d1 : Int), .int .i64 (d2 : Int), .slice none 0 0, .slice none 0 0] 33)) (by decide) rfl)
  have HBK := Lib.hid (Bk.new u2.drew 33 #[.string (bs l0), .int .i64 (d1 : Int), .int .i64 (d2 : Int), .slice none 0 0, .slice none 0 0])
  have c4d : u2.drew.cell? ⟨r, 4, none⟩ = some (.slice A n c) := c4
  have c4a : (u2.drew.alloc (.cells #[.string (bs l0), .int .i64 (d1 : Int), .int .i64 (d2 : Int), .slice none 0 0, .slice none 0 0] 33)).cell? ⟨r, 4, none⟩ = some (.slice A n c) := (HSA.out.blk.cell 4).trans (by rw [← HN.out]; rfl)
  have c4b : (u2.alloc (.cells #[.string (bs l0), .int .i64 (d1 : Int), .int .i64 (d2 : Int), .slice none 0 0, .slice none 0 0] 33)).cell? ⟨r, 4, none⟩ = some (.slice A n c) := c4a
  have w0a : (u2.drew.alloc (.cells #[.string (bs l0), .int .i64 (d1 : Int), .int .i64 (d2 : Int), .slice none 0 0, .slice none 0 0] 33)).cell? ⟨b, o, none⟩ = some (.string (bs l0)) := (((Below.refl u2.drew.heap.size u2.drew).alloc (Nat.le_refl _) _).cell (p := ⟨b, o, none⟩) hbl).trans w0
  try simp only [List.cons_append, List.nil_append]
  refine wp_region_held_drew (S := fun wz => wz.cell? ⟨b, o, none⟩ = some (.string (bs l0))) (by kernel_rfl) (w0) (fun hHeld => ?_)
  refine tk (some 23) 0 (v := ?_) rfl rfl ?_ hHeld ?_
  rotate_left
  · intro wz hSw; have hw0 := hSw; go_simp; try (with_reducible rfl)
  try simp only [lay]
  refine tk (some 24) 1 (v := ?_) rfl rfl ?_ hHeld ?_
  rotate_left
  · intro wz hSw; have hw0 := hSw; go_simp; try (with_reducible rfl)
  try simp only [lay]
  refine tk (some 25) 2 (v := ?_) rfl rfl ?_ hHeld ?_
  rotate_left
  · intro wz hSw; have hw0 := hSw; go_simp; try (with_reducible rfl)
  try simp only [lay]
  refine tk (some 26) 3 (v := ?_) rfl rfl ?_ hHeld ?_
  rotate_left
  · intro wz hSw; have hw0 := hSw; go_simp; try (with_reducible rfl)
  try simp only [lay]
  refine tk (some 27) 4 (v := ?_) rfl rfl ?_ hHeld ?_
  rotate_left
  · intro wz hSw; have hw0 := hSw; go_simp; try (with_reducible rfl)
  try simp only [lay]
  refine tk (some 29) 6 (v := ?_) rfl rfl ?_ hHeld ?_
  rotate_left
  · intro wz hSw; have hw0 := hSw; go_simp; try (with_reducible rfl)
  try simp only [lay]
  refine tk (some 30) 7 (v := ?_) rfl rfl ?_ hHeld ?_
  rotate_left
  · intro wz hSw; have hw0 := hSw; go_simp; try (with_reducible rfl)
  try simp only [lay]
  refine tk (some 31) 8 (v := ?_) rfl rfl ?_ hHeld ?_
  rotate_left
  · intro wz hSw; have hw0 := hSw; go_simp; try (with_reducible rfl)
  try simp only [lay]
  refine tk (some 32) 9 (v := ?_) rfl rfl ?_ hHeld ?_
  rotate_left
  · intro wz hSw; have hw0 := hSw; go_simp; try (with_reducible rfl)
  try simp only [lay]
  refine tk (some 33) 10 (v := ?_) rfl rfl ?_ hHeld ?_
  rotate_left
  · intro wz hSw; have hw0 := hSw; go_simp; try (with_reducible rfl)
  try simp only [lay]
  refine tk (some 34) 11 (v := ?_) rfl rfl ?_ hHeld ?_
  rotate_left
  · intro wz hSw; have hw0 := hSw; go_simp; try (with_reducible rfl)
  try simp only [lay]
  refine wpAnyH_ready (rs := [5, 12]) (by kernel_rfl) (by simp) (AllReadyH.cons rfl (fun K hK => ?_) (AllReadyH.cons rfl (fun K hK => ?_) AllReadyH.nil))
  · rw [if_pos (by kernel_rfl)]
    go_simp
    refine hK.out _ _ w0 (fun hHeld => ?_)
    try simp only [lay]
    refine wpAnyH_ready (rs := [12]) (by kernel_rfl) (by simp) (AllReadyH.cons rfl (fun K hK => ?_) AllReadyH.nil)
    rw [if_pos (by kernel_rfl)]
    go_simp
    refine hK.out _ _ w0a (fun hHeld => ?_)
    try simp only [lay]
    refine wpAnyH_ready (rs := [13]) (by kernel_rfl) (by simp) (AllReadyH.cons rfl (fun K hK => ?_) AllReadyH.nil)
    rw [if_pos (by kernel_rfl)]
    refine op_rows roT (.tmp 28) (.tmp 35) rfl n rfl HN.out HSA.out.row [⟨⟨bs l0, d1, d2, [], []⟩, none, 0, none, 0⟩] _ 1 _ rfl rfl (fun h => by cases h) (Rw.bk HBK.out) (by omega) (Nat.le_trans HSA.out.BE HSA.out.ES) (n + 1) rfl ?_
    intro A4 c4' w4 ho4 hg4 hb4
    have w04 : w4.cell? ⟨b, o, none⟩ = some (.string (bs l0)) := hg4.cell w0a (fun e => HWB.out e.symm)
    have HT := Lib.hid (HSA.out.addT ⟨bs l0, d1, d2, [], []⟩ rfl rfl (HZ0.out) hg4 ho4)
    have HCT := Lib.hid (show Ch B r u (w4.setCell ⟨r, 4, none⟩ (.slice A4 (n + 1) c4')) from ((HCD.out.trans (Ch.alloc _ _)).trans (Ch.grown hg4 HSA.out.row (Nat.le_refl _))).trans (Ch.set _ (p := ⟨r, 4, none⟩) (.inl rfl) _))
    have k4 := grown_ty hg4 HSA.out.row HSA.out.blk (.inr HSA.out.rB)
    have q4 := k4.cell 4
    have f4 := k4.frozen 4
    simp only [ccs, List.getElem?_toArray, List.getElem?_cons_zero, List.getElem?_cons_succ] at q4
    clear ho4 hg4 hb4 k4
    refine hK.out _ _ w04 (fun hHeld => ?_)
    try simp only [lay]
    refine tk (some 37) 14 (v := ?_) rfl rfl ?_ hHeld ?_
    rotate_left
    · intro wz hSw; go_simp; try (with_reducible rfl)
    try simp only [lay]
    refine tk (some 38) 15 (v := ?_) rfl rfl ?_ hHeld ?_
    rotate_left
    · intro wz hSw; go_simp; try (with_reducible rfl)
    try simp only [lay]
    refine tk (some 39) 16 (v := ?_) rfl rfl ?_ hHeld ?_
    rotate_left
    · intro wz hSw; go_simp; try (with_reducible rfl)
    try simp only [lay]
    refine wpAnyH_ready (rs := [17]) (by kernel_rfl) (by simp) (AllReadyH.cons rfl (fun K hK => ?_) AllReadyH.nil)
    rw [if_pos (by kernel_rfl)]
    go_simp
    refine hK.out _ _ (show (w4.setCell ⟨r, 4, none⟩ (.slice A4 (n + 1) c4')).cell? ⟨b, o, none⟩ = some (.string (bs l0)) from (World.cell?_of_block (w := w4) (a := ⟨b, o, none⟩) (Below.heap_setCell _ _ _ _ (by show b ≠ r; have := HSA.out.rB; omega))).trans w04) (fun hHeld => ?_)
    try simp only [lay]
    refine wpAnyH_done (by kernel_rfl) ?_ _
    clear hHeld
    cases s1 <;> cases s2
    all_goals go_wp2_with fail
    all_goals go_ret
    · exact ⟨⟨false, rfl, (fun hh => by cases hh), fun _ => tenant_none (.inl (by rw [HO.out.1]; exact Option.not_isSome_iff_eq_none.1 (by rw [HD.out.1.2]; simp)))⟩, HCT.out⟩
    · exact ⟨⟨false, rfl, (fun hh => by cases hh), fun _ => tenant_none (.inl (by rw [HO.out.1]; exact Option.not_isSome_iff_eq_none.1 (by rw [HD.out.1.2]; simp)))⟩, HCT.out⟩
    · exact ⟨⟨false, rfl, (fun hh => by cases hh), fun _ => tenant_none (.inr (by rw [HO.out.2]; exact Option.not_isSome_iff_eq_none.1 (by rw [HD.out.2.2]; simp)))⟩, HCT.out⟩
    · refine ⟨⟨true, rfl, fun _ => ⟨w4.heap.size, ⟨a0, a1, a2, a3, ts ++ [⟨⟨bs l0, d1, d2, [], []⟩, none, 0, none, 0⟩], A4, c4'⟩, ?_, ?_⟩, fun hh => by cases hh⟩, HCT.out⟩
      · have := HT.out
        simp only [HN.out] at this
        exact this
      · rw [tenant_some (a := d1) (d := d2) (by rw [HO.out.1]; exact some_of HD.out.1.1 HD.out.1.2) (by rw [HO.out.2]; exact some_of HD.out.2.1 HD.out.2.2)]
        simp only [Cv.cg, List.map_append, List.map_cons, List.map_nil]
  · rw [if_pos (by kernel_rfl)]
    go_simp
    refine hK.out _ _ w0a (fun hHeld => ?_)
    try simp only [lay]
    refine wpAnyH_ready (rs := [5]) (by kernel_rfl) (by simp) (AllReadyH.cons rfl (fun K hK => ?_) AllReadyH.nil)
    rw [if_pos (by kernel_rfl)]
    go_simp
    refine hK.out _ _ w0a (fun hHeld => ?_)
    try simp only [lay]
    refine wpAnyH_ready (rs := [13]) (by kernel_rfl) (by simp) (AllReadyH.cons rfl (fun K hK => ?_) AllReadyH.nil)
    rw [if_pos (by kernel_rfl)]
    refine op_rows roT (.tmp 28) (.tmp 35) rfl n rfl HN.out HSA.out.row [⟨⟨bs l0, d1, d2, [], []⟩, none, 0, none, 0⟩] _ 1 _ rfl rfl (fun h => by cases h) (Rw.bk HBK.out) (by omega) (Nat.le_trans HSA.out.BE HSA.out.ES) (n + 1) rfl ?_
    intro A4 c4' w4 ho4 hg4 hb4
    have w04 : w4.cell? ⟨b, o, none⟩ = some (.string (bs l0)) := hg4.cell w0a (fun e => HWB.out e.symm)
    have HT := Lib.hid (HSA.out.addT ⟨bs l0, d1, d2, [], []⟩ rfl rfl (HZ0.out) hg4 ho4)
    have HCT := Lib.hid (show Ch B r u (w4.setCell ⟨r, 4, none⟩ (.slice A4 (n + 1) c4')) from ((HCD.out.trans (Ch.alloc _ _)).trans (Ch.grown hg4 HSA.out.row (Nat.le_refl _))).trans (Ch.set _ (p := ⟨r, 4, none⟩) (.inl rfl) _))
    have k4 := grown_ty hg4 HSA.out.row HSA.out.blk (.inr HSA.out.rB)
    have q4 := k4.cell 4
    have f4 := k4.frozen 4
    simp only [ccs, List.getElem?_toArray, List.getElem?_cons_zero, List.getElem?_cons_succ] at q4
    clear ho4 hg4 hb4 k4
    refine hK.out _ _ w04 (fun hHeld => ?_)
    try simp only [lay]
    refine tk (some 37) 14 (v := ?_) rfl rfl ?_ hHeld ?_
    rotate_left
    · intro wz hSw; go_simp; try (with_reducible rfl)
    try simp only [lay]
    refine tk (some 38) 15 (v := ?_) rfl rfl ?_ hHeld ?_
    rotate_left
    · intro wz hSw; go_simp; try (with_reducible rfl)
    try simp only [lay]
    refine tk (some 39) 16 (v := ?_) rfl rfl ?_ hHeld ?_
    rotate_left
    · intro wz hSw; go_simp; try (with_reducible rfl)
    try simp only [lay]
    refine wpAnyH_ready (rs := [17]) (by kernel_rfl) (by simp) (AllReadyH.cons rfl (fun K hK => ?_) AllReadyH.nil)
    rw [if_pos (by kernel_rfl)]
    go_simp
    refine hK.out _ _ (show (w4.setCell ⟨r, 4, none⟩ (.slice A4 (n + 1) c4')).cell? ⟨b, o, none⟩ = some (.string (bs l0)) from (World.cell?_of_block (w := w4) (a := ⟨b, o, none⟩) (Below.heap_setCell _ _ _ _ (by show b ≠ r; have := HSA.out.rB; omega))).trans w04) (fun hHeld => ?_)
    try simp only [lay]
    refine wpAnyH_done (by kernel_rfl) ?_ _
    clear hHeld
    cases s1 <;> cases s2
    all_goals go_wp2_with fail
    all_goals go_ret
    · exact ⟨⟨false, rfl, (fun hh => by cases hh), fun _ => tenant_none (.inl (by rw [HO.out.1]; exact Option.not_isSome_iff_eq_none.1 (by rw [HD.out.1.2]; simp)))⟩, HCT.out⟩
    · exact ⟨⟨false, rfl, (fun hh => by cases hh), fun _ => tenant_none (.inl (by rw [HO.out.1]; exact Option.not_isSome_iff_eq_none.1 (by rw [HD.out.1.2]; simp)))⟩, HCT.out⟩
    · exact ⟨⟨false, rfl, (fun hh => by cases hh), fun _ => tenant_none (.inr (by rw [HO.out.2]; exact Option.not_isSome_iff_eq_none.1 (by rw [HD.out.2.2]; simp)))⟩, HCT.out⟩
    · refine ⟨⟨true, rfl, fun _ => ⟨w4.heap.size, ⟨a0, a1, a2, a3, ts ++ [⟨⟨bs l0, d1, d2, [], []⟩, none, 0, none, 0⟩], A4, c4'⟩, ?_, ?_⟩, fun hh => by cases hh⟩, HCT.out⟩
      · have := HT.out
        simp only [HN.out] at this
        exact this
      · rw [tenant_some (a := d1) (d := d2) (by rw [HO.out.1]; exact some_of HD.out.1.1 HD.out.1.2) (by rw [HO.out.2]; exact some_of HD.out.2.1 HD.out.2.2)]
        simp only [Cv.cg, List.map_append, List.map_cons, List.map_nil]
end Go.Proofs.YtekobdmlgbffnaaGreatDoor
