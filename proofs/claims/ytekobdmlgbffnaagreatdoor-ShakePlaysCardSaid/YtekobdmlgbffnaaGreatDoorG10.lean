/- VtMap, Idx, Cg3, Vt2, Row: texts of this seat, one behind the other. -/
import Derived.Test.YtekobdmlgbffnaaGreatDoorG9
import Derived.Maps.OwnSet
import Derived.WideKeyPair
import Derived.Test.YtekobdmlgbffnaaGreatDoorG2
import Derived.Test.YtekobdmlgbffnaaGreatDoorCg2
import Derived.Test.YtekobdmlgbffnaaGreatDoorVt1
import Derived.Test.YtekobdmlgbffnaaGreatDoorG1
/- A map keyed by arrays of two texts: a set of pairs. -/
namespace Go.Proofs.YtekobdmlgbffnaaGreatDoor
set_option linter.unusedVariables false
set_option maxRecDepth 100000
set_option linter.unusedSimpArgs false
open Go.RowKit Go.Maps Go.WideMaps

theorem vArr : ArrKey Tryz.prog 119 9 2 := ⟨Tryz.underlying119, by kernel_rfl, by kernel_rfl, by kernel_rfl⟩
theorem vlaw : Keyed Tryz.prog 119 := Keyed.of_law vArr.law
theorem vzero (w : World) : (zeroValue 120).run Tryz.prog w = .ok (.agg #[]) w := by kernel_rfl
theorem keyOf_two {P : Program} {k e : TypeId} (A : ArrKey P k e 2) (he : P.underlying e = some .string) (hsz : ∃ m, P.types.size = m + 1) {a b : ByteArray} (wa : a.size ≤ maxLen) (wb : b.size ≤ maxLen) :
    keyOf P k (.agg #[.string a, .string b]) = some (.string (keyBytes [.string a.data.toList, .string b.data.toList])) := by
  have hkt := A.keyType hsz
  obtain ⟨m, hm⟩ := hsz
  unfold keyOf
  simp only [A.hu]
  rw [if_pos (by simp [hkt, Value.formed, A.hu, A.size]), hm]
  unfold Program.keyLits
  simp only [A.hu, Value.cells]
  rw [if_pos (by rw [A.size]; rfl), show List.range 2 = [0, 1] from rfl, List.mapM_cons, List.mapM_cons, List.mapM_nil]
  simp [A.one, Program.keyLits, he, wa, wb]
abbrev nk (a b : ByteArray) : Value := .agg #[.string a, .string b]
theorem vkey {a b : ByteArray} (ha : a.size ≤ 140737488355328) (hb : b.size ≤ 140737488355328) : ∃ kl, keyOf Tryz.prog 119 (nk a b) = some kl :=
  ⟨_, keyOf_two vArr Tryz.underlying9 ⟨Tryz.prog.types.size - 1, by kernel_rfl⟩ (by unfold maxLen; omega) (by unfold maxLen; omega)⟩

/-- At mb lies the set of those pairs. -/
structure Mv (u : World) (mb : Nat) (g : Rev) : Prop where
  ex : ∃ n D, u.ownsMap Tryz.prog 119 (unitElem (H := Unit)) mb n D ∧ n ≤ g.length ∧ ∀ a b kl, keyOf Tryz.prog 119 (nk a b) = some kl → Maps.has D kl = inR g a b
theorem Mv.lt {u : World} {mb : Nat} {g : Rev} (h : Mv u mb g) : mb < u.heap.size := by
  obtain ⟨n, D, h3, _⟩ := h.ex
  exact h3.lt
theorem Mv.block {u : World} {mb : Nat} {g : Rev} (h : Mv u mb g) : ∃ es ck, u.heap[mb]? = some (.map es ck) := by
  obtain ⟨n, D, ⟨es, clock, hb, _⟩, _⟩ := h.ex
  exact ⟨es, clock, hb⟩
theorem Mv.ke {u u' : World} {mb : Nat} {g : Rev} {L : List Nat} (h : Mv u mb g) (k : Ke L u u') (hm : mb ∉ L) : Mv u' mb g := by
  obtain ⟨n, D, ⟨es, clock, hb, r⟩, h4⟩ := h.ex
  exact ⟨n, D, ⟨es, clock, (k.block mb (lt_of_block hb) hm).trans hb, r⟩, h4⟩
theorem turned_keV {w w' : World} {b : Nat} (h : w.mapTurned w' b) : Ke [b] w w' := by
  have g := h.grown
  exact ⟨g.os, g.tape, g.output, g.size, fun k hk hn => g.block k hk (fun e => hn (by injection e with e; simp [e]))⟩
theorem Mv.made (w : World) : Mv (w.alloc (.map #[] 0)) w.heap.size [] := ⟨0, DataW.map [], World.ownsMap_made _ _ _ _, Nat.le_refl _, fun a b kl _ => by simp [Maps.has, inR]⟩
theorem Mv.look {u : World} {mb : Nat} {g : Rev} (h : Mv u mb g) {a b : ByteArray} (ha : a.size ≤ 140737488355328) (hb : b.size ≤ 140737488355328) :
    (Instr.lookup 104 (.map (some mb)) (nk a b) true).run Tryz.prog u = .ok (.tuple #[.agg #[], .bool (inR g a b)]) u := by
  obtain ⟨n, D, h3, _, h5⟩ := h.ex
  obtain ⟨kl, hk⟩ := vkey ha hb
  obtain ⟨v, ps, hr, hv⟩ := h3.look_ok vlaw Tryz.underlying104 (vzero u) unitElem_mk hk
  obtain ⟨rfl, _⟩ := unitElem_inv hv
  rw [hr, h5 a b kl hk]
theorem Mv.store {u : World} {mb : Nat} {g : Rev} (h : Mv u mb g) (hg : g.length ≤ 1099511627776) {a b : ByteArray} (ha : a.size ≤ 140737488355328) (hb : b.size ≤ 140737488355328) :
    ∃ w', (Instr.mapUpdate 104 (.map (some mb)) (nk a b) (.agg #[])).run Tryz.prog u = .ok () w' ∧ Mv w' mb ((a, b) :: g) ∧ Ke [mb] u w' := by
  obtain ⟨n, D, h3, h4, h5⟩ := h.ex
  obtain ⟨kl, hk⟩ := vkey ha hb
  obtain ⟨w', hr, h7, h8⟩ := h3.store vlaw Tryz.underlying104 (by unfold maxLen; omega) hk (unitElem_mk (H := Unit))
  refine ⟨w', hr, ⟨n + 1, _, h7, by rw [List.length_cons]; omega, fun x y kl' hk' => ?_⟩, turned_keV h8⟩
  rw [inR_cons]
  by_cases e : kl' = kl
  · subst e
    have e1 := vlaw.inj hk hk'
    injection e1 with e1
    have e2 : a = x ∧ b = y := by
      have := congrArg Array.toList e1
      simp at this
      exact this
    obtain ⟨rfl, rfl⟩ := e2
    rw [has_put_same h3.isMap (vlaw.key hk), nmEq_iff.2 rfl, nmEq_iff.2 rfl]
    rfl
  · rw [has_put_other e, h5 x y kl' hk']
    have hne : (nmEq a x && nmEq b y) = false := by
      cases hq : (nmEq a x && nmEq b y)
      · rfl
      · rw [Bool.and_eq_true, nmEq_iff, nmEq_iff] at hq
        obtain ⟨rfl, rfl⟩ := hq
        exact absurd (Option.some.inj (hk'.symm.trans hk)) e
    rw [hne, Bool.false_or]
end Go.Proofs.YtekobdmlgbffnaaGreatDoor

/- An element of an array by value, its place a letter. Nothing of the program is named here. -/
namespace Go.Proofs.YtekobdmlgbffnaaGreatDoor
set_option linter.unusedVariables false
set_option maxRecDepth 100000
set_option linter.unusedSimpArgs false
open Go.RowKit
theorem run_idx {P : Program} (t e : TypeId) (n : Nat) (cs : Array Value) (i : Nat) (v : Value) (h : P.underlying t = some (.array n e)) (ha : ∀ w, (isAgg e).run P w = .ok false w) (hz : ∀ w, (sizeOf e).run P w = .ok 1 w) (hi : i < n) (hv : cs[i]? = some v) (u : World) :
    (Instr.index t (.agg cs) (.int .i64 (i : Int))).run P u = .ok v u := by
  have h2 : (0 ≤ (i : Int) ∧ (i : Int) < (n : Int)) := by omega
  have h3 : ¬ n ≤ i := by omega
  simp [Instr.index, run_underlying h, asIntOf, h2, h3, go_sem, ha, hz, hv]
end Go.Proofs.YtekobdmlgbffnaaGreatDoor

/- config.Right: its contract. (Written by gen_cg1.py.) -/
namespace Go.Proofs.YtekobdmlgbffnaaGreatDoor
set_option linter.unusedVariables false
set_option maxRecDepth 100000
set_option linter.unusedSimpArgs false
open Go.RowKit

def TimI (a0 a1 a2 a3 : Int) (i : Nat) : Prop := (1 ≤ i → timB a0 = true) ∧ (2 ≤ i → timB a1 = true) ∧ (3 ≤ i → timB a2 = true) ∧ (4 ≤ i → timB a3 = true)
theorem TimI.s0 {a0 a1 a2 a3 : Int} (h : TimI a0 a1 a2 a3 0) (ht : timB a0 = true) : TimI a0 a1 a2 a3 1 := ⟨fun _ => ht, by omega, by omega, by omega⟩
theorem TimI.s1 {a0 a1 a2 a3 : Int} (h : TimI a0 a1 a2 a3 1) (ht : timB a1 = true) : TimI a0 a1 a2 a3 2 := ⟨fun _ => h.1 (by omega), fun _ => ht, by omega, by omega⟩
theorem TimI.s2 {a0 a1 a2 a3 : Int} (h : TimI a0 a1 a2 a3 2) (ht : timB a2 = true) : TimI a0 a1 a2 a3 3 := ⟨fun _ => h.1 (by omega), fun _ => h.2.1 (by omega), fun _ => ht, by omega⟩
theorem TimI.s3 {a0 a1 a2 a3 : Int} (h : TimI a0 a1 a2 a3 3) (ht : timB a3 = true) : TimI a0 a1 a2 a3 4 := ⟨fun _ => h.1 (by omega), fun _ => h.2.1 (by omega), fun _ => h.2.2.1 (by omega), fun _ => ht⟩
theorem timB_bad {n : Int} (h : timB n = false) : n < 1 ∨ 1073741824 < n := by
  unfold timB at h
  simp only [Bool.and_eq_false_iff, decide_eq_false_iff_not] at h
  omega

theorem tim_le' {n : Int} (h : timB n = true) : ¬ n < 1 ∧ ¬ n > 1073741824 := by
  unfold timB at h
  simp only [Bool.and_eq_true, decide_eq_true_eq] at h
  omega
set_option maxRecDepth 100000 in
set_option maxHeartbeats 8000000 in
theorem right_cfg (x : Cv) (w : World) (h : RC w x) : Calls Tryz.prog 13 #[.agg (ccs x)] w fun e w' => e = .returned (.bool (cfgB x.cg)) ∧ Below w.heap.size w w' := by
  obtain ⟨a0, a1, a2, a3, ts, A, c⟩ := x
  show Calls Tryz.prog 13 #[.agg #[.int .i64 a0, .int .i64 a1, .int .i64 a2, .int .i64 a3, .slice A ts.length c]] w _
  obtain ⟨x1, x2⟩ := h
  dsimp only at x1 x2
  have g1 := x2.cap
  have g2 := x2.max
  obtain ⟨v, hv⟩ : ∃ v, cfgB (Cv.cg ⟨a0, a1, a2, a3, ts, A, c⟩) = v := ⟨_, rfl⟩
  rw [hv]
  have hi1 : decide (ts.length ≤ 8) = decide ((ts.length : Int) ≤ 8) := by apply decide_eq_decide.2; omega
  have hv2 : (timB a0 && timB a1 && timB a2 && timB a3 && decide ((ts.length : Int) ≤ 8) && rise ByteArray.empty (ts.map fun x => x.t.name) && ts.all fun x => tenB x.t) = v := by
    rw [← hv, ← hi1]
    unfold cfgB Cv.cg
    simp only [List.length_map, List.map_map, List.all_map]
    rfl
  clear hv
  obtain ⟨n, hn⟩ : ∃ n, ts.length = n := ⟨_, rfl⟩
  have HB0 := Lib.hid (Bx.new w 24 #[.int .i64 a0, .int .i64 a1, .int .i64 a2, .int .i64 a3, .slice A n c])
  have HR1 := Lib.hid (fun u (hu : Bx w w.heap.size 24 #[.int .i64 a0, .int .i64 a1, .int .i64 a2, .int .i64 a3, .slice A n c] u) => (risT_ok A ts n c u (x1.on hu.l) (fun y hy => (x1.each y hy).sz) hn (by omega)).mono (R' := fun e u' => e = .returned (.bool (rise ByteArray.empty (ts.map fun x => x.t.name))) ∧ Bx w w.heap.size 24 #[.int .i64 a0, .int .i64 a1, .int .i64 a2, .int .i64 a3, .slice A n c] u') fun e u' hh => ⟨hh.1, hu.on hh.2⟩)
  have HA1 := Lib.hid (fun u (hu : Bx w w.heap.size 24 #[.int .i64 a0, .int .i64 a1, .int .i64 a2, .int .i64 a3, .slice A n c] u) => (allT_ok A ts n c u (x1.on hu.l) hn (by omega)).mono (R' := fun e u' => e = .returned (.bool (ts.all fun x => tenB x.t)) ∧ Bx w w.heap.size 24 #[.int .i64 a0, .int .i64 a1, .int .i64 a2, .int .i64 a3, .slice A n c] u') fun e u' hh => ⟨hh.1, hu.on hh.2⟩)
  rw [hn] at hv2 ⊢
  have HV := Lib.hid hv2
  clear hn hi1 x1 x2 g1 hv2
  go_enter Tryz.func13, Tryz.ntmps13
  go_wp2
  go_loopw [14] (fun v14 wr => ∃ (i : Nat), i ≤ 4 ∧ v14 = .int .i64 (i : Int) ∧ Hid (TimI a0 a1 a2 a3 i) ∧ Hid (Bx w w.heap.size 24 #[.int .i64 a0, .int .i64 a1, .int .i64 a2, .int .i64 a3, .slice A n c] wr)) (fun v14 _ => 4 - (intOf v14).toNat)
  case atStart => exact ⟨0, by omega, rfl, Lib.hid ⟨by omega, by omega, by omega, by omega⟩, HB0⟩
  case round =>
    obtain ⟨i, hi, rfl, HT, HB⟩ := hrel
    clear HB0
    match i, hi with
    | 0, _ =>
      cases ht : timB a0 with
      | true =>
        obtain ⟨y1, y2⟩ := tim_le' ht
        go_wp2_with (refine wpList_index rfl 89 (.tmp 13) (.tmp 14) rfl _ _ (.int .i64 a0) rfl rfl (run_idx 89 2 4 _ 0 _ Tryz.underlying89 Tryz.isAgg2 Tryz.sizeOf2 (by omega) rfl _) ?_)
        go_roundw
        case rel => exact ⟨1, by omega, by go_num, Lib.hid (HT.out.s0 ht), HB⟩
        case measure => simp [intOf]
      | false =>
        have hvf : v = false := by rw [← HV.out]; simp [ht]
        subst hvf
        rcases timB_bad ht with y1 | y1
        · go_wp2_with (refine wpList_index rfl 89 (.tmp 13) (.tmp 14) rfl _ _ (.int .i64 a0) rfl rfl (run_idx 89 2 4 _ 0 _ Tryz.underlying89 Tryz.isAgg2 Tryz.sizeOf2 (by omega) rfl _) ?_)
          go_ret
          exact ⟨rfl, HB.out.l⟩
        · have y2 : ¬ a0 < 1 := by omega
          go_wp2_with (refine wpList_index rfl 89 (.tmp 13) (.tmp 14) rfl _ _ (.int .i64 a0) rfl rfl (run_idx 89 2 4 _ 0 _ Tryz.underlying89 Tryz.isAgg2 Tryz.sizeOf2 (by omega) rfl _) ?_)
          go_ret
          exact ⟨rfl, HB.out.l⟩
    | 1, _ =>
      cases ht : timB a1 with
      | true =>
        obtain ⟨y1, y2⟩ := tim_le' ht
        go_wp2_with (refine wpList_index rfl 89 (.tmp 13) (.tmp 14) rfl _ _ (.int .i64 a1) rfl rfl (run_idx 89 2 4 _ 1 _ Tryz.underlying89 Tryz.isAgg2 Tryz.sizeOf2 (by omega) rfl _) ?_)
        go_roundw
        case rel => exact ⟨2, by omega, by go_num, Lib.hid (HT.out.s1 ht), HB⟩
        case measure => simp [intOf]
      | false =>
        have hvf : v = false := by rw [← HV.out]; simp [ht]
        subst hvf
        rcases timB_bad ht with y1 | y1
        · go_wp2_with (refine wpList_index rfl 89 (.tmp 13) (.tmp 14) rfl _ _ (.int .i64 a1) rfl rfl (run_idx 89 2 4 _ 1 _ Tryz.underlying89 Tryz.isAgg2 Tryz.sizeOf2 (by omega) rfl _) ?_)
          go_ret
          exact ⟨rfl, HB.out.l⟩
        · have y2 : ¬ a1 < 1 := by omega
          go_wp2_with (refine wpList_index rfl 89 (.tmp 13) (.tmp 14) rfl _ _ (.int .i64 a1) rfl rfl (run_idx 89 2 4 _ 1 _ Tryz.underlying89 Tryz.isAgg2 Tryz.sizeOf2 (by omega) rfl _) ?_)
          go_ret
          exact ⟨rfl, HB.out.l⟩
    | 2, _ =>
      cases ht : timB a2 with
      | true =>
        obtain ⟨y1, y2⟩ := tim_le' ht
        go_wp2_with (refine wpList_index rfl 89 (.tmp 13) (.tmp 14) rfl _ _ (.int .i64 a2) rfl rfl (run_idx 89 2 4 _ 2 _ Tryz.underlying89 Tryz.isAgg2 Tryz.sizeOf2 (by omega) rfl _) ?_)
        go_roundw
        case rel => exact ⟨3, by omega, by go_num, Lib.hid (HT.out.s2 ht), HB⟩
        case measure => simp [intOf]
      | false =>
        have hvf : v = false := by rw [← HV.out]; simp [ht]
        subst hvf
        rcases timB_bad ht with y1 | y1
        · go_wp2_with (refine wpList_index rfl 89 (.tmp 13) (.tmp 14) rfl _ _ (.int .i64 a2) rfl rfl (run_idx 89 2 4 _ 2 _ Tryz.underlying89 Tryz.isAgg2 Tryz.sizeOf2 (by omega) rfl _) ?_)
          go_ret
          exact ⟨rfl, HB.out.l⟩
        · have y2 : ¬ a2 < 1 := by omega
          go_wp2_with (refine wpList_index rfl 89 (.tmp 13) (.tmp 14) rfl _ _ (.int .i64 a2) rfl rfl (run_idx 89 2 4 _ 2 _ Tryz.underlying89 Tryz.isAgg2 Tryz.sizeOf2 (by omega) rfl _) ?_)
          go_ret
          exact ⟨rfl, HB.out.l⟩
    | 3, _ =>
      cases ht : timB a3 with
      | true =>
        obtain ⟨y1, y2⟩ := tim_le' ht
        go_wp2_with (refine wpList_index rfl 89 (.tmp 13) (.tmp 14) rfl _ _ (.int .i64 a3) rfl rfl (run_idx 89 2 4 _ 3 _ Tryz.underlying89 Tryz.isAgg2 Tryz.sizeOf2 (by omega) rfl _) ?_)
        go_roundw
        case rel => exact ⟨4, by omega, by go_num, Lib.hid (HT.out.s3 ht), HB⟩
        case measure => simp [intOf]
      | false =>
        have hvf : v = false := by rw [← HV.out]; simp [ht]
        subst hvf
        rcases timB_bad ht with y1 | y1
        · go_wp2_with (refine wpList_index rfl 89 (.tmp 13) (.tmp 14) rfl _ _ (.int .i64 a3) rfl rfl (run_idx 89 2 4 _ 3 _ Tryz.underlying89 Tryz.isAgg2 Tryz.sizeOf2 (by omega) rfl _) ?_)
          go_ret
          exact ⟨rfl, HB.out.l⟩
        · have y2 : ¬ a3 < 1 := by omega
          go_wp2_with (refine wpList_index rfl 89 (.tmp 13) (.tmp 14) rfl _ _ (.int .i64 a3) rfl rfl (run_idx 89 2 4 _ 3 _ Tryz.underlying89 Tryz.isAgg2 Tryz.sizeOf2 (by omega) rfl _) ?_)
          go_ret
          exact ⟨rfl, HB.out.l⟩
    | 4, _ =>
      obtain ⟨t0, t1, t2, t3⟩ := HT.out
      have hv := HV.out
      rw [t0 (by omega), t1 (by omega), t2 (by omega), t3 (by omega)] at hv
      simp only [Bool.true_and] at hv
      have c4 : wr.cell? ⟨w.heap.size, 4, none⟩ = some (.slice A n c) := HB.out.cell 4
      clear HV HT t0 t1 t2 t3
      cases h1 : decide ((n : Int) ≤ 8) with
      | false =>
        have e : v = false := by rw [← hv]; simp [h1]
        subst e
        clear hv
        go_wp2_with (first | (go_at_call 44; refine (HR1.out _ HB.out).mono ?_; rintro e u2 ⟨rfl, hb⟩; have e4 : u2.cell? ⟨w.heap.size, 4, none⟩ = some (.slice A n c) := hb.cell 4; have HB2 := Lib.hid hb; clear hb) | (go_at_call 45; refine (HA1.out _ HB2.out).mono ?_; rintro e u3 ⟨rfl, hb⟩; have HB3 := Lib.hid hb; clear hb))
        go_ret
        exact ⟨rfl, by first | exact HB3.out.l | exact HB2.out.l | exact HB.out.l⟩
      | true =>
        cases h2 : rise ByteArray.empty (ts.map fun x => x.t.name) with
        | false =>
          rw [h2] at HR1
          have e : v = false := by rw [← hv]; simp [h1, h2]
          subst e
          clear hv
          go_wp2_with (first | (go_at_call 44; refine (HR1.out _ HB.out).mono ?_; rintro e u2 ⟨rfl, hb⟩; have e4 : u2.cell? ⟨w.heap.size, 4, none⟩ = some (.slice A n c) := hb.cell 4; have HB2 := Lib.hid hb; clear hb) | (go_at_call 45; refine (HA1.out _ HB2.out).mono ?_; rintro e u3 ⟨rfl, hb⟩; have HB3 := Lib.hid hb; clear hb))
          go_ret
          exact ⟨rfl, by first | exact HB3.out.l | exact HB2.out.l | exact HB.out.l⟩
        | true =>
          rw [h2] at HR1
          cases h3 : ts.all fun x => tenB x.t with
          | false =>
            rw [h3] at HA1
            have e : v = false := by rw [← hv]; simp [h1, h2, h3]
            subst e
            clear hv
            go_wp2_with (first | (go_at_call 44; refine (HR1.out _ HB.out).mono ?_; rintro e u2 ⟨rfl, hb⟩; have e4 : u2.cell? ⟨w.heap.size, 4, none⟩ = some (.slice A n c) := hb.cell 4; have HB2 := Lib.hid hb; clear hb) | (go_at_call 45; refine (HA1.out _ HB2.out).mono ?_; rintro e u3 ⟨rfl, hb⟩; have HB3 := Lib.hid hb; clear hb))
            go_ret
            exact ⟨rfl, by first | exact HB3.out.l | exact HB2.out.l | exact HB.out.l⟩
          | true =>
            rw [h3] at HA1
            have e : v = true := by rw [← hv]; simp [h1, h2, h3]
            subst e
            clear hv
            go_wp2_with (first | (go_at_call 44; refine (HR1.out _ HB.out).mono ?_; rintro e u2 ⟨rfl, hb⟩; have e4 : u2.cell? ⟨w.heap.size, 4, none⟩ = some (.slice A n c) := hb.cell 4; have HB2 := Lib.hid hb; clear hb) | (go_at_call 45; refine (HA1.out _ HB2.out).mono ?_; rintro e u3 ⟨rfl, hb⟩; have HB3 := Lib.hid hb; clear hb))
            go_ret
            exact ⟨rfl, by first | exact HB3.out.l | exact HB2.out.l | exact HB.out.l⟩
    | i + 5, hi => omega

end Go.Proofs.YtekobdmlgbffnaaGreatDoor

/- A vault's memory; vault.New: its contract. -/
namespace Go.Proofs.YtekobdmlgbffnaaGreatDoor
set_option linter.unusedVariables false
set_option maxRecDepth 100000
set_option linter.unusedSimpArgs false
open Go.RowKit

/-- At v lies a vault of those tenants; g of its tokens are revoked; its map lies at mb. -/
structure Vz (u : World) (v mb : Nat) (x : Cv) (c : List Tn) (g : Rev) : Prop where
  blk : Bk u v 106 #[.int .i64 x.wait, .int .i64 x.grace, .int .i64 x.idle, .int .i64 x.lease, .slice x.A x.ts.length x.c, .map (some mb)]
  rc : RC u x
  mp : Mv u mb g
  few : ∀ y ∈ x.ts, y.t.nets.length ≤ 1099511627776 ∧ y.t.toks.length ≤ 1099511627776
  sec : ∀ a b k, tkN c a b = some k → k.sec.size ≤ 32
  tk : ∀ a b, tkT x.ts a b = tkN c a b
theorem Vz.on {u u' : World} {v mb : Nat} {x : Cv} {c : List Tn} {g : Rev} (h : Vz u v mb x c g) (hb : Below u.heap.size u u') : Vz u' v mb x c g :=
  ⟨h.blk.below hb h.blk.lt, h.rc.on hb, h.mp.ke (Ke.of hb) (by simp), h.few, h.sec, h.tk⟩
/-- Its own map turned. -/
theorem Vz.own {u u' : World} {v mb : Nat} {x : Cv} {c : List Tn} {g g' : Rev} (h : Vz u v mb x c g) (k : Ke [mb] u u') (hm : Mv u' mb g') : Vz u' v mb x c g' := by
  obtain ⟨es, ck, he⟩ := h.mp.block
  exact ⟨h.blk.keM k he, h.rc.ke k he, hm, h.few, h.sec, h.tk⟩
def Va (u : World) (v mb : Nat) (c : List Tn) (g : Rev) : Prop := ∃ x, Vz u v mb x c g
theorem Va.on {u u' : World} {v mb : Nat} {c : List Tn} {g : Rev} (h : Va u v mb c g) (hb : Below u.heap.size u u') : Va u' v mb c g := h.imp fun _ h => h.on hb
theorem Va.mp {u : World} {v mb : Nat} {c : List Tn} {g : Rev} (h : Va u v mb c g) : Mv u mb g := h.elim fun _ h => h.mp

theorem kept_tk {ts ts' : List Tv} (h : ts'.map (·.t) = ts.map (fun y => kpT y.t)) (a b : ByteArray) : tkT ts' a b = tkN (ts.map (·.t)) a b := by
  rw [tkT_is, h, ← tkN_kept (ts.map (·.t)), List.map_map]; rfl

theorem cfg_few {x : Cv} (h : cfgB x.cg = true) : x.ts.length ≤ 1099511626 ∧ ∀ y ∈ x.ts, y.t.toks.length ≤ 1099511627776 := by
  obtain ⟨_, _, _, _, h1, _, h2⟩ := cfgB_parts h
  have h3 : x.ts.length ≤ 8 := by simpa [Cv.cg] using h1
  refine ⟨by omega, fun y hy => ?_⟩
  have := (tenB_parts (h2 y.t (List.mem_map.2 ⟨y, hy, rfl⟩))).2.2.2.2.1
  omega
/-- What New leaves. -/
def VnP (C : Bool) (c : List Tn) (w : World) (e : Ending) (w' : World) : Prop := ((C = false ∧ e = .returned (.pointer none)) ∨ (C = true ∧ ∃ v mb, e = .returned (.pointer (some ⟨v, 0, none⟩)) ∧ Va w' v mb c [] ∧ w.heap.size ≤ v ∧ w.heap.size ≤ mb ∧ v < w'.heap.size)) ∧ Below w.heap.size w w'
set_option maxHeartbeats 2000000 in
theorem vnew_ok (x : Cv) (w : World) (h : RC w x) :
    Calls Tryz.prog 21 #[.agg (ccs x)] w (VnP (cfgB x.cg) x.cg.tens w) := by
  have HR := Lib.hid (fun u (hu : Below w.heap.size w u) => right_cfg x u (h.on hu))
  have HK := Lib.hid (show cfgB x.cg = true → ∀ u (hu : Below w.heap.size w u), _ from fun hc u hu => kept_ok x u (h.on hu) (cfg_few hc).1 (cfg_few hc).2)
  have HSC := Lib.hid (show cfgB x.cg = true → ∀ a b k, tkN x.cg.tens a b = some k → k.sec.size ≤ 32 from fun hc a b k hk => (tkN_till hc hk).2.2.2)
  have HTS := Lib.hid (show x.cg.tens = x.ts.map (·.t) from rfl)
  obtain ⟨C, hC⟩ : ∃ C, cfgB x.cg = C := ⟨_, rfl⟩
  rw [hC] at HR HSC HK ⊢
  obtain ⟨c, hc⟩ : ∃ c, x.cg.tens = c := ⟨_, rfl⟩
  rw [hc] at HSC HTS ⊢
  obtain ⟨a0, a1, a2, a3, ts, A, cp⟩ := x
  dsimp only at HTS HK
  obtain ⟨n, hn⟩ : ∃ n, ts.length = n := ⟨_, rfl⟩
  have HN := Lib.hid hn
  simp only [ccs, hn] at HR HK ⊢
  have H1 := Lib.hid (show Bx w w.heap.size 24 #[.int .i64 a0, .int .i64 a1, .int .i64 a2, .int .i64 a3, .slice A n cp] (w.alloc (.cells #[.int .i64 a0, .int .i64 a1, .int .i64 a2, .int .i64 a3, .slice A n cp] 24)) from Bx.new _ _ _)
  clear h hn hC hc
  have hmm := @run_makeMap Tryz.prog
  go_enter Tryz.func21, Tryz.ntmps21
  cases C with
  | false =>
    go_wp2_with (go_at_call 13; (with_reducible refine (HR.out _ H1.out.l).mono ?_); rintro e u2 ⟨rfl, hb⟩; have H2 := Lib.hid (H1.out.on hb); clear hb)
    go_ret
    exact ⟨.inl ⟨rfl, rfl⟩, H2.out.l⟩
  | true =>
    go_upto_region 3 with (go_at_call 13; (with_reducible refine (HR.out _ H1.out.l).mono ?_); rintro e u2 ⟨rfl, hb⟩; have H2 := Lib.hid (H1.out.on hb); clear hb)
    have e0 : u2.cell? ⟨w.heap.size, 0, none⟩ = some (.int .i64 a0) := H2.out.b.cell 0
    have e1 : u2.cell? ⟨w.heap.size, 1, none⟩ = some (.int .i64 a1) := H2.out.b.cell 1
    have e2 : u2.cell? ⟨w.heap.size, 2, none⟩ = some (.int .i64 a2) := H2.out.b.cell 2
    have e3 : u2.cell? ⟨w.heap.size, 3, none⟩ = some (.int .i64 a3) := H2.out.b.cell 3
    have e4 : u2.cell? ⟨w.heap.size, 4, none⟩ = some (.slice A n cp) := H2.out.b.cell 4
    go_wp2_with (go_at_call 60; (with_reducible refine (HK.out (by first | rfl | trivial) _ H2.out.l).mono ?_); rintro e u3 ⟨ts', A', c', rfl, ht, hrc, hfw, hb⟩; have H3 := Lib.hid (And.intro (H2.out.on hb) (And.intro ht (And.intro hrc hfw))); clear hb ht hrc hfw)
    have hl3 : ts'.length = n := by have := congrArg List.length H3.out.2.1; simp only [List.length_map] at this; exact this.trans HN.out
    have hm := Mv.made u3
    have hb3 := (Below.refl u3.heap.size u3).alloc (Nat.le_refl _) (.map #[] 0)
    have hsz : (u3.alloc (.map #[] 0)).heap.size = u3.heap.size + 1 := World.size_alloc ..
    have hb4 := hb3.alloc hb3.size (.cells #[.int .i64 0, .int .i64 0, .int .i64 0, .int .i64 0, .slice A' n c', .map (some u3.heap.size)] 106)
    have hbk : Bk ((u3.alloc (.map #[] 0)).alloc (.cells #[.int .i64 0, .int .i64 0, .int .i64 0, .int .i64 0, .slice A' n c', .map (some u3.heap.size)] 106)) (u3.heap.size + 1) 106 #[.int .i64 0, .int .i64 0, .int .i64 0, .int .i64 0, .slice A' n c', .map (some u3.heap.size)] := by
      have := Bk.new (u3.alloc (.map #[] 0)) 106 #[.int .i64 0, .int .i64 0, .int .i64 0, .int .i64 0, .slice A' n c', .map (some u3.heap.size)]
      rwa [hsz] at this
    have hz := H3.out.1.l.size
    go_ret
    refine ⟨.inr ⟨rfl, u3.heap.size + 1, u3.heap.size, rfl, ⟨⟨0, 0, 0, 0, ts', A', c'⟩, ?_, H3.out.2.2.1.on hb4, ?_, H3.out.2.2.2, HSC.out (by first | rfl | trivial), fun a b => ?_⟩, by omega, hz, hbk.lt⟩, H3.out.1.l.trans (hb4.mono hz)⟩
    · dsimp only
      rw [hl3]
      exact hbk
    · exact hm.ke (Ke.of ((Below.refl (u3.alloc (.map #[] 0)).heap.size (u3.alloc (.map #[] 0))).alloc (Nat.le_refl _) _)) (by simp)
    · rw [HTS.out]
      exact kept_tk H3.out.2.1 a b
end Go.Proofs.YtekobdmlgbffnaaGreatDoor

/- A whole array loaded in a region that draws its order. Nothing of the program is named here. -/
namespace Go.Proofs.YtekobdmlgbffnaaGreatDoor
set_option linter.unusedVariables false
set_option maxRecDepth 100000
set_option linter.unusedSimpArgs false
open Go.RowKit

theorem yieldsIf_load_row {P : Program} {ops : Array Oper} {S : World → Prop} {oi : Oper} {a : Act} (hw : Region.wanted oi (yielded ops a.tmps) = true) (ty : TypeId) (x : Operand) (ho : oi.op = .load ty x)
    (g : Nat) (hx : a.eval x = .pointer (some ⟨g, 0, none⟩)) (t : TypeId) (cs : Array Value) (hS : ∀ w, S w → Bk w g t cs) {d : TypeDesc}
    (hu : P.underlying ty = some d) (hd : (match d with | .struct _ | .array _ _ => true | _ => false) = true) (hi : (P.info? ty).map (·.size) = some cs.size) : YieldsIf P ops S oi (.agg cs) a :=
  .inl ⟨hw, fun w hw' => by
    unfold execOp
    simp only [ho, hx, Instr.loadAt, Instr.sureAddr, Sem.run_bind, Sem.run_pure, Result.andThen_ok, run_loadVar_row w g t ty cs (0, 0) d (hS w hw') hu hd hi]⟩
theorem gen_any2 {P : Program} {md : Region.Mode} {ops : Array Oper} {Q : Exit → Act → World → Prop} {S' : World → Prop} {fuel : Nat} {listed : Array Bool} {a : Act} {w : World} (S : World → Prop) (hS : S w) (h : ∀ u, S u → wpAnyH P md ops Q S' fuel listed a u) : wpAnyH P md ops Q S' fuel listed a w := h w hS
end Go.Proofs.YtekobdmlgbffnaaGreatDoor
