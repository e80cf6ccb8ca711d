/- The document's own: Right: its contract. (Written by gen_wref.py.) -/
import Derived.Test.YtimhjmeebahdaaaDoorWRef1
import Derived.Test.YtimhjmeebahdaaaDoorWire1
import Derived.Deep.Cut
namespace Go.Proofs.YtimhjmeebahdaaaDoor
set_option linter.unusedVariables false
set_option linter.unusedSimpArgs false
open Go.RowKit

/-- A message lies at block g; what was there ahead of block B is as it was. -/
structure Mq (B : Nat) (w : World) (g : Nat) (x : Mg) (u : World) : Prop where
  row : Bk u g 23 x.cells
  b : Below B w u
theorem Mq.on {B g : Nat} {w u u' : World} {x : Mg} (H : Mq B w g x u) (hb : Below u.heap.size u u') (hB : B ≤ w.heap.size) : Mq B w g x u' :=
  ⟨H.row.below hb H.row.lt, H.b.trans (hb.mono (Nat.le_trans hB H.b.size))⟩
theorem Mq.c {B g : Nat} {w u : World} {k n m : Int} {a b : ByteArray} (H : Mq B w g ⟨k, a, b, n, m⟩ u) :
    u.cell? ⟨g, 0, none⟩ = some (.int .i64 k) ∧ u.cell? ⟨g, 1, none⟩ = some (.string a) ∧ u.cell? ⟨g, 2, none⟩ = some (.string b) ∧ u.cell? ⟨g, 3, none⟩ = some (.int .i64 n) ∧ u.cell? ⟨g, 4, none⟩ = some (.int .i64 m) :=
  ⟨by rw [H.row.cell]; rfl, by rw [H.row.cell]; rfl, by rw [H.row.cell]; rfl, by rw [H.row.cell]; rfl, by rw [H.row.cell]; rfl⟩
theorem Mq.new {B : Nat} {w : World} {x : Mg} (hB : B = w.heap.size) : Mq B w w.heap.size x (w.alloc (.cells x.cells 23)) :=
  ⟨Bk.new _ _ _, (Below.refl _ _).alloc (Nat.le_of_eq hB) _⟩

theorem lt_dot : ∀ k : Nat, k < 15 → 1 ≤ k → (ltL.getD k [] == [46]) = false ∧ (ltL.getD k []).length ≤ 3 := by decide +kernel
/-- What the letters say. -/
structure Lts (k : Int) (s : ByteArray) (kb : Bool) : Prop where
  size : s.size ≤ 3
  dot : (s.toList == [46]) = !kb
  a : kb = true → decide ((65 : UInt8) ∈ s.data.toList) = hasK k.toNat 0
  b : kb = true → decide ((66 : UInt8) ∈ s.data.toList) = hasK k.toNat 1
  n : kb = true → decide ((78 : UInt8) ∈ s.data.toList) = hasK k.toNat 2
  m : kb = true → decide ((77 : UInt8) ∈ s.data.toList) = hasK k.toNat 3
theorem lts (k : Int) : Lts k (ltB k) (knownB k) := by
  by_cases hk : knownB k = true
  · have h2 := hk
    unfold knownB at h2
    simp only [Bool.and_eq_true, decide_eq_true_eq] at h2
    have e : ltB k = bs (ltL.getD k.toNat []) := by unfold ltB; rw [if_pos hk]
    obtain ⟨d1, d2⟩ := lt_dot k.toNat (by omega) (by omega)
    obtain ⟨p0, p1, p2, p3⟩ := lt_has k.toNat (by omega) (by omega)
    have hb : ∀ (c : UInt8) (v : Bool), (c ∈ ltL.getD k.toNat [] ↔ v = true) → decide (c ∈ (ltB k).data.toList) = v := by
      intro c v h
      rw [e, bs_data]
      cases v with
      | true => exact decide_eq_true (h.2 rfl)
      | false => exact decide_eq_false (fun hc => by cases h.1 hc)
    refine ⟨?_, ?_, fun _ => hb 65 _ p0, fun _ => hb 66 _ p1, fun _ => hb 78 _ p2, fun _ => hb 77 _ p3⟩
    · rw [e, bs_size]; exact d2
    · rw [e, bs_list, hk, d1]; rfl
  · have e : ltB k = bs [46] := by unfold ltB; rw [if_neg hk]
    have hk' : knownB k = false := by simpa using hk
    refine ⟨by rw [e, bs_size]; simp, by rw [e, bs_list, hk']; rfl, ?_, ?_, ?_, ?_⟩ <;> (intro h; rw [hk'] at h; cases h)

theorem of_c (s : ByteArray) (hs : s.size ≤ 3) (c : UInt8) (v : Nat) (hv : c.toNat = v) (h : Bool) (hh : decide (c ∈ s.data.toList) = h) (u : World) :
    Calls Tryd.prog 21 #[.string s, .int .u8 (v : Int)] u fun e w' => e = .returned (.bool h) ∧ u = w' := by
  have := rof_ok s c u (by omega) v hv
  rwa [hh] at this

set_option maxRecDepth 100000 in
set_option maxHeartbeats 8000000 in
theorem rright_ok (x : Mg) (w : World) (ha : x.a.size ≤ 140737488355328) (hb : x.b.size ≤ 140737488355328) : Calls Tryd.prog 14 #[.agg x.cells] w fun e w' => e = .returned (.bool (rightM x)) ∧ Below w.heap.size w w' := by
  obtain ⟨v, hv⟩ : ∃ v, rightM x = v := ⟨_, rfl⟩
  rw [hv]
  unfold rightM at hv
  have H0 := Lib.hid (Mq.new (B := w.heap.size) (w := w) (x := x) rfl)
  have HHAS := Lib.hid (fun u => rhas_ok x.k u)
  have hl := lts x.k
  obtain ⟨s, hs⟩ : ∃ s, ltB x.k = s := ⟨_, rfl⟩
  rw [hs] at hl HHAS
  obtain ⟨kb, hkb⟩ : ∃ kb, knownB x.k = kb := ⟨_, rfl⟩
  obtain ⟨ob, hob⟩ : ∃ ob, onlyB x = ob := ⟨_, rfl⟩
  rw [hkb] at hl hv
  rw [hob] at hv
  unfold onlyB at hob
  obtain ⟨k, a, b, n, m⟩ := x
  simp only at hv hob ha hb hl
  obtain ⟨h0, e0⟩ : ∃ h0, hasK k.toNat 0 = h0 := ⟨_, rfl⟩
  obtain ⟨h1, e1⟩ : ∃ h1, hasK k.toNat 1 = h1 := ⟨_, rfl⟩
  obtain ⟨h2, e2⟩ : ∃ h2, hasK k.toNat 2 = h2 := ⟨_, rfl⟩
  obtain ⟨h3, e3⟩ : ∃ h3, hasK k.toNat 3 = h3 := ⟨_, rfl⟩
  rw [e0, e1, e2, e3] at hob
  have hA := hl.a
  have hB := hl.b
  have hN := hl.n
  have hM := hl.m
  rw [e0] at hA
  rw [e1] at hB
  rw [e2] at hN
  rw [e3] at hM
  have HA := Lib.hid (fun (h : kb = true) u => of_c s hl.size 65 65 rfl h0 (hA h) u)
  have HB := Lib.hid (fun (h : kb = true) u => of_c s hl.size 66 66 rfl h1 (hB h) u)
  have HN := Lib.hid (fun (h : kb = true) u => of_c s hl.size 78 78 rfl h2 (hN h) u)
  have HM := Lib.hid (fun (h : kb = true) u => of_c s hl.size 77 77 rfl h3 (hM h) u)
  have hdot := hl.dot
  have HV := Lib.hid hv
  clear hA hB hN hM hl hs hkb e0 e1 e2 e3 hv
  go_enter Tryd.func14, Tryd.ntmps14
  have cs := H0.out.c
  go_wp2_with fail
  clear cs
  refine (HHAS.out _).mono ?_
  rintro e w1 ⟨rfl, hb1⟩
  have H1 := Lib.hid (H0.out.on hb1 (Nat.le_refl _))
  clear hb1 H0 HHAS
  obtain ⟨za, hza⟩ : ∃ za, a.toList.isEmpty = za := ⟨_, rfl⟩
  obtain ⟨zb, hzb⟩ : ∃ zb, b.toList.isEmpty = zb := ⟨_, rfl⟩
  obtain ⟨zn, hzn⟩ : ∃ zn, (n == 0) = zn := ⟨_, rfl⟩
  obtain ⟨zm, hzm⟩ : ∃ zm, (m == 0) = zm := ⟨_, rfl⟩
  rw [hza, hzb, hzn, hzm] at hob
  have HOB := Lib.hid hob
  have hzn2 : (n != 0) = !zn := by rw [← hzn]; rfl
  have hzm2 : (m != 0) = !zm := by rw [← hzm]; rfl
  clear hob hzn hzm
  go_upto_region 2 with (fail)
  go_cut [48] from 4 (fun v48 wx => v48 = .bool (!(kb && ob)) ∧ Hid (Mq w.heap.size w w.heap.size ⟨k, a, b, n, m⟩ wx))
  case first =>
    have cs := H1.out.c
    obtain ⟨x0, x1, x2, x3, x4⟩ := cs
    cases kb with
    | false =>
      simp only [Bool.not_false] at hdot
      go_wp2_with fail
      go_meet
      case rel => exact ⟨rfl, H1⟩
    | true =>
      simp only [Bool.not_true] at hdot
      go_wp2_with fail
      refine (HA.out (by simp) _).mono ?_
      rintro e u0 ⟨rfl, rfl⟩
      cases h0 with
      | true =>
        go_wp2_with fail
        refine (HB.out (by simp) _).mono ?_
        rintro e u1 ⟨rfl, rfl⟩
        cases h1 with
        | true =>
          go_wp2_with fail
          refine (HN.out (by simp) _).mono ?_
          rintro e u2 ⟨rfl, rfl⟩
          cases h2 with
          | true =>
            go_wp2_with fail
            refine (HM.out (by simp) _).mono ?_
            rintro e u3 ⟨rfl, rfl⟩
            cases h3 with
            | true =>
              have HF := Lib.hid (show true = ob by rw [← HOB.out]; rfl)
              go_wp2_with fail
              go_meet
              case rel => exact ⟨by rw [← HF.out]; rfl, H1⟩
            | false =>
              cases zm with
              | true =>
                simp only [Bool.not_true] at hzm2
                have HF := Lib.hid (show true = ob by rw [← HOB.out]; rfl)
                go_wp2_with fail
                go_meet
                case rel => exact ⟨by rw [← HF.out]; rfl, H1⟩
              | false =>
                simp only [Bool.not_false] at hzm2
                have HF := Lib.hid (show false = ob by rw [← HOB.out]; simp)
                go_wp2_with fail
                go_meet
                case rel => exact ⟨by rw [← HF.out]; rfl, H1⟩
          | false =>
            cases zn with
            | true =>
              simp only [Bool.not_true] at hzn2
              go_wp2_with fail
              refine (HM.out (by simp) _).mono ?_
              rintro e u3 ⟨rfl, rfl⟩
              cases h3 with
              | true =>
                have HF := Lib.hid (show true = ob by rw [← HOB.out]; rfl)
                go_wp2_with fail
                go_meet
                case rel => exact ⟨by rw [← HF.out]; rfl, H1⟩
              | false =>
                cases zm with
                | true =>
                  simp only [Bool.not_true] at hzm2
                  have HF := Lib.hid (show true = ob by rw [← HOB.out]; rfl)
                  go_wp2_with fail
                  go_meet
                  case rel => exact ⟨by rw [← HF.out]; rfl, H1⟩
                | false =>
                  simp only [Bool.not_false] at hzm2
                  have HF := Lib.hid (show false = ob by rw [← HOB.out]; simp)
                  go_wp2_with fail
                  go_meet
                  case rel => exact ⟨by rw [← HF.out]; rfl, H1⟩
            | false =>
              simp only [Bool.not_false] at hzn2
              have HF := Lib.hid (show false = ob by rw [← HOB.out]; simp)
              go_wp2_with fail
              go_meet
              case rel => exact ⟨by rw [← HF.out]; rfl, H1⟩
        | false =>
          cases zb with
          | true =>
            go_wp2_with fail
            refine (HN.out (by simp) _).mono ?_
            rintro e u2 ⟨rfl, rfl⟩
            cases h2 with
            | true =>
              go_wp2_with fail
              refine (HM.out (by simp) _).mono ?_
              rintro e u3 ⟨rfl, rfl⟩
              cases h3 with
              | true =>
                have HF := Lib.hid (show true = ob by rw [← HOB.out]; rfl)
                go_wp2_with fail
                go_meet
                case rel => exact ⟨by rw [← HF.out]; rfl, H1⟩
              | false =>
                cases zm with
                | true =>
                  simp only [Bool.not_true] at hzm2
                  have HF := Lib.hid (show true = ob by rw [← HOB.out]; rfl)
                  go_wp2_with fail
                  go_meet
                  case rel => exact ⟨by rw [← HF.out]; rfl, H1⟩
                | false =>
                  simp only [Bool.not_false] at hzm2
                  have HF := Lib.hid (show false = ob by rw [← HOB.out]; simp)
                  go_wp2_with fail
                  go_meet
                  case rel => exact ⟨by rw [← HF.out]; rfl, H1⟩
            | false =>
              cases zn with
              | true =>
                simp only [Bool.not_true] at hzn2
                go_wp2_with fail
                refine (HM.out (by simp) _).mono ?_
                rintro e u3 ⟨rfl, rfl⟩
                cases h3 with
                | true =>
                  have HF := Lib.hid (show true = ob by rw [← HOB.out]; rfl)
                  go_wp2_with fail
                  go_meet
                  case rel => exact ⟨by rw [← HF.out]; rfl, H1⟩
                | false =>
                  cases zm with
                  | true =>
                    simp only [Bool.not_true] at hzm2
                    have HF := Lib.hid (show true = ob by rw [← HOB.out]; rfl)
                    go_wp2_with fail
                    go_meet
                    case rel => exact ⟨by rw [← HF.out]; rfl, H1⟩
                  | false =>
                    simp only [Bool.not_false] at hzm2
                    have HF := Lib.hid (show false = ob by rw [← HOB.out]; simp)
                    go_wp2_with fail
                    go_meet
                    case rel => exact ⟨by rw [← HF.out]; rfl, H1⟩
              | false =>
                simp only [Bool.not_false] at hzn2
                have HF := Lib.hid (show false = ob by rw [← HOB.out]; simp)
                go_wp2_with fail
                go_meet
                case rel => exact ⟨by rw [← HF.out]; rfl, H1⟩
          | false =>
            have HF := Lib.hid (show false = ob by rw [← HOB.out]; simp)
            go_wp2_with fail
            go_meet
            case rel => exact ⟨by rw [← HF.out]; rfl, H1⟩
      | false =>
        cases za with
        | true =>
          go_wp2_with fail
          refine (HB.out (by simp) _).mono ?_
          rintro e u1 ⟨rfl, rfl⟩
          cases h1 with
          | true =>
            go_wp2_with fail
            refine (HN.out (by simp) _).mono ?_
            rintro e u2 ⟨rfl, rfl⟩
            cases h2 with
            | true =>
              go_wp2_with fail
              refine (HM.out (by simp) _).mono ?_
              rintro e u3 ⟨rfl, rfl⟩
              cases h3 with
              | true =>
                have HF := Lib.hid (show true = ob by rw [← HOB.out]; rfl)
                go_wp2_with fail
                go_meet
                case rel => exact ⟨by rw [← HF.out]; rfl, H1⟩
              | false =>
                cases zm with
                | true =>
                  simp only [Bool.not_true] at hzm2
                  have HF := Lib.hid (show true = ob by rw [← HOB.out]; rfl)
                  go_wp2_with fail
                  go_meet
                  case rel => exact ⟨by rw [← HF.out]; rfl, H1⟩
                | false =>
                  simp only [Bool.not_false] at hzm2
                  have HF := Lib.hid (show false = ob by rw [← HOB.out]; simp)
                  go_wp2_with fail
                  go_meet
                  case rel => exact ⟨by rw [← HF.out]; rfl, H1⟩
            | false =>
              cases zn with
              | true =>
                simp only [Bool.not_true] at hzn2
                go_wp2_with fail
                refine (HM.out (by simp) _).mono ?_
                rintro e u3 ⟨rfl, rfl⟩
                cases h3 with
                | true =>
                  have HF := Lib.hid (show true = ob by rw [← HOB.out]; rfl)
                  go_wp2_with fail
                  go_meet
                  case rel => exact ⟨by rw [← HF.out]; rfl, H1⟩
                | false =>
                  cases zm with
                  | true =>
                    simp only [Bool.not_true] at hzm2
                    have HF := Lib.hid (show true = ob by rw [← HOB.out]; rfl)
                    go_wp2_with fail
                    go_meet
                    case rel => exact ⟨by rw [← HF.out]; rfl, H1⟩
                  | false =>
                    simp only [Bool.not_false] at hzm2
                    have HF := Lib.hid (show false = ob by rw [← HOB.out]; simp)
                    go_wp2_with fail
                    go_meet
                    case rel => exact ⟨by rw [← HF.out]; rfl, H1⟩
              | false =>
                simp only [Bool.not_false] at hzn2
                have HF := Lib.hid (show false = ob by rw [← HOB.out]; simp)
                go_wp2_with fail
                go_meet
                case rel => exact ⟨by rw [← HF.out]; rfl, H1⟩
          | false =>
            cases zb with
            | true =>
              go_wp2_with fail
              refine (HN.out (by simp) _).mono ?_
              rintro e u2 ⟨rfl, rfl⟩
              cases h2 with
              | true =>
                go_wp2_with fail
                refine (HM.out (by simp) _).mono ?_
                rintro e u3 ⟨rfl, rfl⟩
                cases h3 with
                | true =>
                  have HF := Lib.hid (show true = ob by rw [← HOB.out]; rfl)
                  go_wp2_with fail
                  go_meet
                  case rel => exact ⟨by rw [← HF.out]; rfl, H1⟩
                | false =>
                  cases zm with
                  | true =>
                    simp only [Bool.not_true] at hzm2
                    have HF := Lib.hid (show true = ob by rw [← HOB.out]; rfl)
                    go_wp2_with fail
                    go_meet
                    case rel => exact ⟨by rw [← HF.out]; rfl, H1⟩
                  | false =>
                    simp only [Bool.not_false] at hzm2
                    have HF := Lib.hid (show false = ob by rw [← HOB.out]; simp)
                    go_wp2_with fail
                    go_meet
                    case rel => exact ⟨by rw [← HF.out]; rfl, H1⟩
              | false =>
                cases zn with
                | true =>
                  simp only [Bool.not_true] at hzn2
                  go_wp2_with fail
                  refine (HM.out (by simp) _).mono ?_
                  rintro e u3 ⟨rfl, rfl⟩
                  cases h3 with
                  | true =>
                    have HF := Lib.hid (show true = ob by rw [← HOB.out]; rfl)
                    go_wp2_with fail
                    go_meet
                    case rel => exact ⟨by rw [← HF.out]; rfl, H1⟩
                  | false =>
                    cases zm with
                    | true =>
                      simp only [Bool.not_true] at hzm2
                      have HF := Lib.hid (show true = ob by rw [← HOB.out]; rfl)
                      go_wp2_with fail
                      go_meet
                      case rel => exact ⟨by rw [← HF.out]; rfl, H1⟩
                    | false =>
                      simp only [Bool.not_false] at hzm2
                      have HF := Lib.hid (show false = ob by rw [← HOB.out]; simp)
                      go_wp2_with fail
                      go_meet
                      case rel => exact ⟨by rw [← HF.out]; rfl, H1⟩
                | false =>
                  simp only [Bool.not_false] at hzn2
                  have HF := Lib.hid (show false = ob by rw [← HOB.out]; simp)
                  go_wp2_with fail
                  go_meet
                  case rel => exact ⟨by rw [← HF.out]; rfl, H1⟩
            | false =>
              have HF := Lib.hid (show false = ob by rw [← HOB.out]; simp)
              go_wp2_with fail
              go_meet
              case rel => exact ⟨by rw [← HF.out]; rfl, H1⟩
        | false =>
          have HF := Lib.hid (show false = ob by rw [← HOB.out]; simp)
          go_wp2_with fail
          go_meet
          case rel => exact ⟨by rw [← HF.out]; rfl, H1⟩
  case rest =>
    obtain ⟨rfl, H2⟩ := hcut
    clear H1 HA HB HN HM hza hzb hzn2 hzm2 hdot HOB
    cases kb with
    | false =>
      simp only [Bool.false_and, Bool.not_false]
      have HVF := Lib.hid (show false = v by rw [← HV.out]; rfl)
      go_wp2_with fail
      go_ret
      exact ⟨by rw [← HVF.out]; rfl, H2.out.b⟩
    | true =>
      cases ob with
      | false =>
        simp only [Bool.true_and, Bool.not_false]
        have HVF := Lib.hid (show false = v by rw [← HV.out]; rfl)
        go_wp2_with fail
        go_ret
        exact ⟨by rw [← HVF.out]; rfl, H2.out.b⟩
      | true =>
        simp only [Bool.true_and, Bool.not_true]
        have hv := HV.out
        simp only [Bool.true_and] at hv
        have HV := Lib.hid hv
        have HBE := Lib.hid H2.out.b
        obtain ⟨x0, x1, x2, x3, x4⟩ := H2.out.c
        clear hv H2
        by_cases ha1 : (a.size : Int) ≤ 64
        · skip
          by_cases hb1 : (b.size : Int) ≤ 64
          · skip
            by_cases hn1 : 0 ≤ n
            · skip
              by_cases hn2 : n ≤ 1099511627776
              · skip
                by_cases hm1 : 0 ≤ m
                · skip
                  by_cases hm2 : m ≤ 1099511627776
                  · skip
                    have HVF := Lib.hid (show true = v by rw [← HV.out]; unfold cntB; simp; omega)
                    go_wp2_with fail
                    go_ret
                    exact ⟨by rw [← HVF.out]; rfl, HBE.out⟩
                  · skip
                    have HVF := Lib.hid (show false = v by rw [← HV.out]; unfold cntB; simp; omega)
                    go_wp2_with fail
                    go_ret
                    exact ⟨by rw [← HVF.out]; rfl, HBE.out⟩
                · skip
                  have HVF := Lib.hid (show false = v by rw [← HV.out]; unfold cntB; simp; omega)
                  go_wp2_with fail
                  go_ret
                  exact ⟨by rw [← HVF.out]; rfl, HBE.out⟩
              · skip
                have HVF := Lib.hid (show false = v by rw [← HV.out]; unfold cntB; simp; omega)
                go_wp2_with fail
                go_ret
                exact ⟨by rw [← HVF.out]; rfl, HBE.out⟩
            · skip
              have HVF := Lib.hid (show false = v by rw [← HV.out]; unfold cntB; simp; omega)
              go_wp2_with fail
              go_ret
              exact ⟨by rw [← HVF.out]; rfl, HBE.out⟩
          · skip
            have HVF := Lib.hid (show false = v by rw [← HV.out]; unfold cntB; simp; omega)
            go_wp2_with fail
            go_ret
            exact ⟨by rw [← HVF.out]; rfl, HBE.out⟩
        · skip
          have HVF := Lib.hid (show false = v by rw [← HV.out]; unfold cntB; simp; omega)
          go_wp2_with fail
          go_ret
          exact ⟨by rw [← HVF.out]; rfl, HBE.out⟩
end Go.Proofs.YtimhjmeebahdaaaDoor
