/- PairOnce: who was in a pair is never in another one: the walk. (Written by gen_pronce.py.) -/
import Derived.Test.YtinjldjpncijjaaPrH
import Derived.Test.YtinjldjpncijjaaG8
namespace Go.Proofs.Ytinjldjpncijjaa
set_option linter.unusedVariables false
set_option maxRecDepth 100000
set_option linter.unusedSimpArgs false
open Go.RowKit

set_option maxRecDepth 100000 in
set_option maxHeartbeats 16000000 in
theorem walk_PairOnce (A : Option Addr) (L : List CoM) (n c : Nat) (W : World) (h : InC W A L n c) :
    Calls Try.prog 5 #[.slice A n c] W fun e w' => e = .returned (.bool true) ∧ Below W.heap.size W w' := by
  have HI := Lib.hid h
  have hcapn : n ≤ 9223372036854775807 := by have h1 := h.cap; have h2 := h.max; unfold maxLen at h2; omega
  clear h
  go_enter Try.func5, Try.ntmps5
  go_upto_region 2 with (go_at_call 9; (with_reducible refine (phead_ok _).mono ?_); rintro e u1 ⟨rfl, hb⟩; have HB1 := Lib.hid hb; clear hb)
  go_upto_region 3 with (go_at_call 10; (with_reducible refine (z_pnew HB1.out).mono ?_); rintro e u2 ⟨H2, tb, rfl, h1, h2, h3⟩; have HZ2 := Lib.hid h1; clear h1 h2 h3)
  by_cases hgt : n > 300
  · have hg2 : (n : Int) > 300 := by omega
    have hg3 : decide ((300 : Int) < (n : Int)) = true := decide_eq_true (by omega)
    go_wp2
    go_ret
    exact ⟨rfl, HZ2.out.l⟩
  · have hg2 : ¬ (n : Int) > 300 := by omega
    have hg3 : decide ((300 : Int) < (n : Int)) = false := decide_eq_false (by omega)
    go_wp2_with fail
    go_loopw [5, 6] (fun v5 v6 wr => ∃ (i m : Nat) (t : Tp) (H : List Nat) (A5 : Option Addr) (c5 : Nat), i ≤ n ∧ v5 = .slice A5 m c5 ∧ v6 = .int .i64 (i : Int) ∧ Hid (Zp W wr H tb t) ∧ Hid (Lrk 3 1 piv W wr H A5 c5 t.ev) ∧ Hid (t.ev.length = m ∧ m ≤ 2 * i ∧ t.l.length ≤ i ∧ Gp t)) (fun v5 v6 _ => n - (intOf v6).toNat)
    case atStart => exact ⟨0, 0, ⟨[], []⟩, H2, none, 0, by omega, rfl, rfl, HZ2, Lib.hid (Lrk.nil _ _ _), Lib.hid ⟨rfl, by omega, by simp, gp_nil⟩⟩
    case round =>
      obtain ⟨i, m, t, H, A5, c5, hi, rfl, rfl, HZ, HX, HE⟩ := hrel
      have hm6 : m ≤ 2 * i := HE.out.2.1
      by_cases hi1 : i < n
      · have hi2 : (i : Int) < (n : Int) := by omega
        have HFW := Lib.hid (show t.l.length ≤ 1000 ∧ t.ev.length ≤ 2000 from ⟨by have := HE.out.2.2.1; omega, by have := HE.out.1; have := HE.out.2.1; omega⟩)
        obtain ⟨bx, o, op, rfl, hx, hwf, hc⟩ := HI.out.at_ i hi1
        obtain ⟨x0, x1, x2⟩ := hc wr HZ.out.l
        obtain ⟨ow, oa, ob⟩ := op
        dsimp only at x0 x1 x2
        have HWA := Lib.hid (show WfN oa from hwf.2.1)
        have HWB := Lib.hid (show WfN ob from hwf.2.2)
        clear hx hc hwf
        go_upto_region 10 with fail
        obtain ⟨kb, hkb⟩ : ∃ kb, wr.heap.size = kb := ⟨_, rfl⟩
        obtain ⟨v, hv⟩ : ∃ v, wr.alloc (.cells #[.int .i64 ow, .int .i64 oa, .int .i64 ob] 29) = v := ⟨_, rfl⟩
        have hbv : Below wr.heap.size wr v := by rw [← hv]; exact (Below.refl _ _).alloc (Nat.le_refl _) _
        have HB := Lib.hid (show Bz v H kb 29 #[.int .i64 ow, .int .i64 oa, .int .i64 ob] by rw [← hv, ← hkb]; exact Bz.new HZ.out.hi _ _)
        have HZv := Lib.hid (HZ.out.on hbv)
        have HXv := Lib.hid (HX.out.on hbv)
        try rw [hv]
        try rw [hkb]
        clear hv hkb hbv x0 x1 x2
        have e0 : v.cell? ⟨kb, 0, none⟩ = some (.int .i64 ow) := HB.out.b.cell 0
        have e1 : v.cell? ⟨kb, 1, none⟩ = some (.int .i64 oa) := HB.out.b.cell 1
        have e2 : v.cell? ⟨kb, 2, none⟩ = some (.int .i64 ob) := HB.out.b.cell 2
        by_cases h2 : ow = 2
        · subst h2
          obtain ⟨⟨⟨x, b⟩, t2⟩, hR⟩ : ∃ R, partP t oa = R := ⟨_, rfl⟩
          have HR := Lib.hid hR
          have hev : t2.ev = t.ev := (congrArg (fun r => r.2.ev) hR).symm
          have hl2 : partL t.l oa = t2.l := congrArg (fun r => r.2.l) hR
          have hoth : othP t.l oa = (x, b) := congrArg Prod.fst hR
          have HG2 := Lib.hid (gp_out HE.out.2.2.2 hR)
          obtain ⟨⟨x2, b2⟩, hR2⟩ : ∃ R, othP t2.l oa = R := ⟨_, rfl⟩
          have hb2 : b2 = false := by
            have h1 := oth_none.2 (part_gone HE.out.2.2.2.nd oa).1
            rw [hl2, hR2] at h1
            exact h1
          subst hb2
          have HR2 := Lib.hid hR2
          have HF2 := Lib.hid (show t2.l.length ≤ 1000 ∧ t2.ev.length ≤ 2000 by rw [hev, ← hl2]; have h1 := part_few t oa; exact ⟨Nat.le_trans h1 HFW.out.1, HFW.out.2⟩)
          have HWAS := Lib.hid (show b = true → oa ∈ t.ev from fun hb => by
            apply HE.out.2.2.2.ev
            apply Classical.byContradiction
            intro hn
            have h1 := oth_none.2 hn
            rw [hoth, hb] at h1
            cases h1)
          have HE2 := Lib.hid (show t2.ev.length = m ∧ m ≤ 2 * (i + 1) ∧ t2.l.length ≤ i + 1 ∧ Gp t2 from ⟨by rw [hev]; exact HE.out.1, by omega, by rw [← hl2]; have h1 := part_few t oa; have h2 := HE.out.2.2.1; exact Nat.le_trans h1 (by omega), HG2.out⟩)
          have HEV := Lib.hid hev
          clear hR hev hl2 hoth hR2
          go_upto_region 12 with (go_at_call 12; (with_reducible refine (z_part HZv.out HE.out.2.2.2 HFW.out oa x b t2 HR.out).mono ?_); rintro e u3 ⟨H3, rfl, h1, h2⟩; have HZ3 := Lib.hid h1; have HX3 := Lib.hid (HXv.out.step h2); have HB3 := Lib.hid (HB.out.step h2); clear h1 h2)
          clear e0 e1 e2
          have e0 : u3.cell? ⟨kb, 0, none⟩ = some (.int .i64 2) := HB3.out.b.cell 0
          have e1 : u3.cell? ⟨kb, 1, none⟩ = some (.int .i64 oa) := HB3.out.b.cell 1
          have e2 : u3.cell? ⟨kb, 2, none⟩ = some (.int .i64 ob) := HB3.out.b.cell 2
          go_upto_region 13 with (go_at_call 16; (with_reducible refine (z_other HZ3.out HG2.out HF2.out oa x2 false HR2.out).mono ?_); rintro e u4 ⟨rfl, h1⟩; have HZ4 := Lib.hid (HZ3.out.on h1); have HX4 := Lib.hid (HX3.out.on h1); have HB4 := Lib.hid (HB3.out.on h1); clear h1)
          clear e0 e1 e2
          have e0 : u4.cell? ⟨kb, 0, none⟩ = some (.int .i64 2) := HB4.out.b.cell 0
          have e1 : u4.cell? ⟨kb, 1, none⟩ = some (.int .i64 oa) := HB4.out.b.cell 1
          have e2 : u4.cell? ⟨kb, 2, none⟩ = some (.int .i64 ob) := HB4.out.b.cell 2
          cases b with
          | true =>
            have HHS := Lib.hid (phas_ok A5 t.ev m c5 u4 oa (Ow.rw_ (fun _ => rfl) HX4.out.o) HE.out.1 (by omega) true (decide_eq_true (HWAS.out rfl)))
            go_wp2_with (go_at_call 22; (with_reducible refine HHS.out.mono ?_); rintro e u5 ⟨rfl, h1⟩; have HZ5 := Lib.hid (HZ4.out.on h1); have HX5 := Lib.hid (HX4.out.on h1); clear h1)
            go_roundw
            case rel => exact ⟨i + 1, m, t2, H3, A5, c5, by omega, rfl, by go_num, HZ5, Lib.hid (by rw [HEV.out]; exact HX5.out), HE2⟩
            case measure => simp [intOf] <;> omega
          | false =>
            go_wp2_with fail
            go_roundw
            case rel => exact ⟨i + 1, m, t2, H3, A5, c5, by omega, rfl, by go_num, HZ4, Lib.hid (by rw [HEV.out]; exact HX4.out), HE2⟩
            case measure => simp [intOf] <;> omega
        · have h2b : (ow == 2) = false := by simp [h2]
          obtain ⟨r1, hr1⟩ : ∃ r, decide (oa ∈ t.ev) = r := ⟨_, rfl⟩
          obtain ⟨r2, hr2⟩ : ∃ r, decide (ob ∈ t.ev) = r := ⟨_, rfl⟩
          have HRR := Lib.hid (And.intro hr1 hr2)
          rcases join_cases t oa ob with ⟨hbad, hj⟩ | ⟨hbad, hold, hj⟩ | ⟨hbad, hold, hj⟩
          · have HJ := Lib.hid hj
            have HE2 := Lib.hid (show t.ev.length = m ∧ m ≤ 2 * (i + 1) ∧ t.l.length ≤ i + 1 ∧ Gp t from ⟨HE.out.1, by omega, by have := HE.out.2.2.1; omega, HE.out.2.2.2⟩)
            clear hj
            cases r1 with
            | true =>
              go_upto_region 16 with (go_at_call 14; (with_reducible refine (z_join HZv.out HE.out.2.2.2 HFW.out oa ob 1 t HJ.out).mono ?_); rintro e u3 ⟨H3, rfl, h1, h2⟩; have HZ3 := Lib.hid h1; have HX3 := Lib.hid (HXv.out.step h2); have HB3 := Lib.hid (HB.out.step h2); clear h1 h2)
              clear e0 e1 e2
              have e0 : u3.cell? ⟨kb, 0, none⟩ = some (.int .i64 ow) := HB3.out.b.cell 0
              have e1 : u3.cell? ⟨kb, 1, none⟩ = some (.int .i64 oa) := HB3.out.b.cell 1
              have e2 : u3.cell? ⟨kb, 2, none⟩ = some (.int .i64 ob) := HB3.out.b.cell 2
              have HH1 := Lib.hid (fun u (hb : Below u3.heap.size u3 u) => phas_ok A5 t.ev m c5 u oa (Ow.rw_ (fun _ => rfl) (HX3.out.on hb).o) HE.out.1 (by omega) true HRR.out.1)
              have HH2 := Lib.hid (fun u (hb : Below u3.heap.size u3 u) => phas_ok A5 t.ev m c5 u ob (Ow.rw_ (fun _ => rfl) (HX3.out.on hb).o) HE.out.1 (by omega) r2 HRR.out.2)
              go_upto_region 17 with (go_at_call 22; (with_reducible refine (HH1.out u3 (Below.refl _ _)).mono ?_); rintro e u4 ⟨rfl, h1⟩; have HB4 := Lib.hid h1; clear h1; have q0 : u4.cell? ⟨kb, 0, none⟩ = some (.int .i64 ow) := (HB3.out.on HB4.out).b.cell 0; have q1 : u4.cell? ⟨kb, 1, none⟩ = some (.int .i64 oa) := (HB3.out.on HB4.out).b.cell 1; have q2 : u4.cell? ⟨kb, 2, none⟩ = some (.int .i64 ob) := (HB3.out.on HB4.out).b.cell 2)
              have HZ6 := Lib.hid (HZ3.out.on HB4.out)
              have HX6 := Lib.hid (HX3.out.on HB4.out)
              by_cases ha : oa > 0
              · have ha2 : decide (0 < oa) = true := decide_eq_true ha
                by_cases hb : ob > 0
                · have hb2 : decide (0 < ob) = true := decide_eq_true hb
                  have hab : (oa != ob) = false := by
                    rcases hbad with h1 | h1 | h1
                    · omega
                    · omega
                    · simp [h1]
                  clear hbad
                  go_wp2_with fail
                  go_roundw
                  case rel => exact ⟨i + 1, m, t, H3, A5, c5, by omega, rfl, by go_num, HZ6, HX6, HE2⟩
                  case measure => simp [intOf] <;> omega
                · have hb2 : decide (0 < ob) = false := decide_eq_false hb
                  clear hbad
                  go_wp2_with fail
                  go_roundw
                  case rel => exact ⟨i + 1, m, t, H3, A5, c5, by omega, rfl, by go_num, HZ6, HX6, HE2⟩
                  case measure => simp [intOf] <;> omega
              · have ha2 : decide (0 < oa) = false := decide_eq_false ha
                clear hbad
                go_wp2_with fail
                go_roundw
                case rel => exact ⟨i + 1, m, t, H3, A5, c5, by omega, rfl, by go_num, HZ6, HX6, HE2⟩
                case measure => simp [intOf] <;> omega
            | false =>
              cases r2 with
              | true =>
                go_upto_region 16 with (go_at_call 14; (with_reducible refine (z_join HZv.out HE.out.2.2.2 HFW.out oa ob 1 t HJ.out).mono ?_); rintro e u3 ⟨H3, rfl, h1, h2⟩; have HZ3 := Lib.hid h1; have HX3 := Lib.hid (HXv.out.step h2); have HB3 := Lib.hid (HB.out.step h2); clear h1 h2)
                clear e0 e1 e2
                have e0 : u3.cell? ⟨kb, 0, none⟩ = some (.int .i64 ow) := HB3.out.b.cell 0
                have e1 : u3.cell? ⟨kb, 1, none⟩ = some (.int .i64 oa) := HB3.out.b.cell 1
                have e2 : u3.cell? ⟨kb, 2, none⟩ = some (.int .i64 ob) := HB3.out.b.cell 2
                have HH1 := Lib.hid (fun u (hb : Below u3.heap.size u3 u) => phas_ok A5 t.ev m c5 u oa (Ow.rw_ (fun _ => rfl) (HX3.out.on hb).o) HE.out.1 (by omega) false HRR.out.1)
                have HH2 := Lib.hid (fun u (hb : Below u3.heap.size u3 u) => phas_ok A5 t.ev m c5 u ob (Ow.rw_ (fun _ => rfl) (HX3.out.on hb).o) HE.out.1 (by omega) true HRR.out.2)
                go_upto_region 17 with (first | (go_at_call 22; (with_reducible refine (HH1.out u3 (Below.refl _ _)).mono ?_); rintro e u4 ⟨rfl, h1⟩; have HB4 := Lib.hid h1; clear h1; have q0 : u4.cell? ⟨kb, 0, none⟩ = some (.int .i64 ow) := (HB3.out.on HB4.out).b.cell 0; have q1 : u4.cell? ⟨kb, 1, none⟩ = some (.int .i64 oa) := (HB3.out.on HB4.out).b.cell 1; have q2 : u4.cell? ⟨kb, 2, none⟩ = some (.int .i64 ob) := (HB3.out.on HB4.out).b.cell 2) | (go_at_call 22; (with_reducible refine (HH2.out u4 HB4.out).mono ?_); rintro e u5 ⟨rfl, h1⟩; have HB5 := Lib.hid (HB4.out.trans (h1.mono HB4.out.size)); clear h1; have s0 : u5.cell? ⟨kb, 0, none⟩ = some (.int .i64 ow) := (HB3.out.on HB5.out).b.cell 0; have s1 : u5.cell? ⟨kb, 1, none⟩ = some (.int .i64 oa) := (HB3.out.on HB5.out).b.cell 1; have s2 : u5.cell? ⟨kb, 2, none⟩ = some (.int .i64 ob) := (HB3.out.on HB5.out).b.cell 2))
                have HZ6 := Lib.hid (HZ3.out.on HB5.out)
                have HX6 := Lib.hid (HX3.out.on HB5.out)
                by_cases ha : oa > 0
                · have ha2 : decide (0 < oa) = true := decide_eq_true ha
                  by_cases hb : ob > 0
                  · have hb2 : decide (0 < ob) = true := decide_eq_true hb
                    have hab : (oa != ob) = false := by
                      rcases hbad with h1 | h1 | h1
                      · omega
                      · omega
                      · simp [h1]
                    clear hbad
                    go_wp2_with fail
                    go_roundw
                    case rel => exact ⟨i + 1, m, t, H3, A5, c5, by omega, rfl, by go_num, HZ6, HX6, HE2⟩
                    case measure => simp [intOf] <;> omega
                  · have hb2 : decide (0 < ob) = false := decide_eq_false hb
                    clear hbad
                    go_wp2_with fail
                    go_roundw
                    case rel => exact ⟨i + 1, m, t, H3, A5, c5, by omega, rfl, by go_num, HZ6, HX6, HE2⟩
                    case measure => simp [intOf] <;> omega
                · have ha2 : decide (0 < oa) = false := decide_eq_false ha
                  clear hbad
                  go_wp2_with fail
                  go_roundw
                  case rel => exact ⟨i + 1, m, t, H3, A5, c5, by omega, rfl, by go_num, HZ6, HX6, HE2⟩
                  case measure => simp [intOf] <;> omega
              | false =>
                go_upto_region 16 with (go_at_call 14; (with_reducible refine (z_join HZv.out HE.out.2.2.2 HFW.out oa ob 1 t HJ.out).mono ?_); rintro e u3 ⟨H3, rfl, h1, h2⟩; have HZ3 := Lib.hid h1; have HX3 := Lib.hid (HXv.out.step h2); have HB3 := Lib.hid (HB.out.step h2); clear h1 h2)
                clear e0 e1 e2
                have e0 : u3.cell? ⟨kb, 0, none⟩ = some (.int .i64 ow) := HB3.out.b.cell 0
                have e1 : u3.cell? ⟨kb, 1, none⟩ = some (.int .i64 oa) := HB3.out.b.cell 1
                have e2 : u3.cell? ⟨kb, 2, none⟩ = some (.int .i64 ob) := HB3.out.b.cell 2
                have HH1 := Lib.hid (fun u (hb : Below u3.heap.size u3 u) => phas_ok A5 t.ev m c5 u oa (Ow.rw_ (fun _ => rfl) (HX3.out.on hb).o) HE.out.1 (by omega) false HRR.out.1)
                have HH2 := Lib.hid (fun u (hb : Below u3.heap.size u3 u) => phas_ok A5 t.ev m c5 u ob (Ow.rw_ (fun _ => rfl) (HX3.out.on hb).o) HE.out.1 (by omega) false HRR.out.2)
                go_upto_region 17 with (first | (go_at_call 22; (with_reducible refine (HH1.out u3 (Below.refl _ _)).mono ?_); rintro e u4 ⟨rfl, h1⟩; have HB4 := Lib.hid h1; clear h1; have q0 : u4.cell? ⟨kb, 0, none⟩ = some (.int .i64 ow) := (HB3.out.on HB4.out).b.cell 0; have q1 : u4.cell? ⟨kb, 1, none⟩ = some (.int .i64 oa) := (HB3.out.on HB4.out).b.cell 1; have q2 : u4.cell? ⟨kb, 2, none⟩ = some (.int .i64 ob) := (HB3.out.on HB4.out).b.cell 2) | (go_at_call 22; (with_reducible refine (HH2.out u4 HB4.out).mono ?_); rintro e u5 ⟨rfl, h1⟩; have HB5 := Lib.hid (HB4.out.trans (h1.mono HB4.out.size)); clear h1; have s0 : u5.cell? ⟨kb, 0, none⟩ = some (.int .i64 ow) := (HB3.out.on HB5.out).b.cell 0; have s1 : u5.cell? ⟨kb, 1, none⟩ = some (.int .i64 oa) := (HB3.out.on HB5.out).b.cell 1; have s2 : u5.cell? ⟨kb, 2, none⟩ = some (.int .i64 ob) := (HB3.out.on HB5.out).b.cell 2))
                have HZ6 := Lib.hid (HZ3.out.on HB5.out)
                have HX6 := Lib.hid (HX3.out.on HB5.out)
                by_cases ha : oa > 0
                · have ha2 : decide (0 < oa) = true := decide_eq_true ha
                  by_cases hb : ob > 0
                  · have hb2 : decide (0 < ob) = true := decide_eq_true hb
                    have hab : (oa != ob) = false := by
                      rcases hbad with h1 | h1 | h1
                      · omega
                      · omega
                      · simp [h1]
                    clear hbad
                    go_wp2_with fail
                    go_roundw
                    case rel => exact ⟨i + 1, m, t, H3, A5, c5, by omega, rfl, by go_num, HZ6, HX6, HE2⟩
                    case measure => simp [intOf] <;> omega
                  · have hb2 : decide (0 < ob) = false := decide_eq_false hb
                    clear hbad
                    go_wp2_with fail
                    go_roundw
                    case rel => exact ⟨i + 1, m, t, H3, A5, c5, by omega, rfl, by go_num, HZ6, HX6, HE2⟩
                    case measure => simp [intOf] <;> omega
                · have ha2 : decide (0 < oa) = false := decide_eq_false ha
                  clear hbad
                  go_wp2_with fail
                  go_roundw
                  case rel => exact ⟨i + 1, m, t, H3, A5, c5, by omega, rfl, by go_num, HZ6, HX6, HE2⟩
                  case measure => simp [intOf] <;> omega
          · have HJ := Lib.hid hj
            have HE2 := Lib.hid (show t.ev.length = m ∧ m ≤ 2 * (i + 1) ∧ t.l.length ≤ i + 1 ∧ Gp t from ⟨HE.out.1, by omega, by have := HE.out.2.2.1; omega, HE.out.2.2.2⟩)
            clear hj
            have ha : oa > 0 := by omega
            have hb : ob > 0 := by omega
            have ha2 : decide (0 < oa) = true := decide_eq_true ha
            have hb2 : decide (0 < ob) = true := decide_eq_true hb
            have hab : (oa != ob) = true := by simp; omega
            clear hbad
            cases r1 with
            | true =>
              clear hold
              go_upto_region 16 with (go_at_call 14; (with_reducible refine (z_join HZv.out HE.out.2.2.2 HFW.out oa ob 4 t HJ.out).mono ?_); rintro e u3 ⟨H3, rfl, h1, h2⟩; have HZ3 := Lib.hid h1; have HX3 := Lib.hid (HXv.out.step h2); have HB3 := Lib.hid (HB.out.step h2); clear h1 h2)
              clear e0 e1 e2
              have e0 : u3.cell? ⟨kb, 0, none⟩ = some (.int .i64 ow) := HB3.out.b.cell 0
              have e1 : u3.cell? ⟨kb, 1, none⟩ = some (.int .i64 oa) := HB3.out.b.cell 1
              have e2 : u3.cell? ⟨kb, 2, none⟩ = some (.int .i64 ob) := HB3.out.b.cell 2
              have HH1 := Lib.hid (fun u (hb : Below u3.heap.size u3 u) => phas_ok A5 t.ev m c5 u oa (Ow.rw_ (fun _ => rfl) (HX3.out.on hb).o) HE.out.1 (by omega) true HRR.out.1)
              have HH2 := Lib.hid (fun u (hb : Below u3.heap.size u3 u) => phas_ok A5 t.ev m c5 u ob (Ow.rw_ (fun _ => rfl) (HX3.out.on hb).o) HE.out.1 (by omega) r2 HRR.out.2)
              go_upto_region 17 with (go_at_call 22; (with_reducible refine (HH1.out u3 (Below.refl _ _)).mono ?_); rintro e u4 ⟨rfl, h1⟩; have HB4 := Lib.hid h1; clear h1; have q0 : u4.cell? ⟨kb, 0, none⟩ = some (.int .i64 ow) := (HB3.out.on HB4.out).b.cell 0; have q1 : u4.cell? ⟨kb, 1, none⟩ = some (.int .i64 oa) := (HB3.out.on HB4.out).b.cell 1; have q2 : u4.cell? ⟨kb, 2, none⟩ = some (.int .i64 ob) := (HB3.out.on HB4.out).b.cell 2)
              have HZ6 := Lib.hid (HZ3.out.on HB4.out)
              have HX6 := Lib.hid (HX3.out.on HB4.out)
              go_wp2_with fail
              go_roundw
              case rel => exact ⟨i + 1, m, t, H3, A5, c5, by omega, rfl, by go_num, HZ6, HX6, HE2⟩
              case measure => simp [intOf] <;> omega
            | false =>
              have hr2t : r2 = true := by
                rcases hold with h1 | h1
                · rw [decide_eq_true h1] at hr1; cases hr1
                · rw [← hr2]; exact decide_eq_true h1
              subst hr2t
              clear hold
              go_upto_region 16 with (go_at_call 14; (with_reducible refine (z_join HZv.out HE.out.2.2.2 HFW.out oa ob 4 t HJ.out).mono ?_); rintro e u3 ⟨H3, rfl, h1, h2⟩; have HZ3 := Lib.hid h1; have HX3 := Lib.hid (HXv.out.step h2); have HB3 := Lib.hid (HB.out.step h2); clear h1 h2)
              clear e0 e1 e2
              have e0 : u3.cell? ⟨kb, 0, none⟩ = some (.int .i64 ow) := HB3.out.b.cell 0
              have e1 : u3.cell? ⟨kb, 1, none⟩ = some (.int .i64 oa) := HB3.out.b.cell 1
              have e2 : u3.cell? ⟨kb, 2, none⟩ = some (.int .i64 ob) := HB3.out.b.cell 2
              have HH1 := Lib.hid (fun u (hb : Below u3.heap.size u3 u) => phas_ok A5 t.ev m c5 u oa (Ow.rw_ (fun _ => rfl) (HX3.out.on hb).o) HE.out.1 (by omega) false HRR.out.1)
              have HH2 := Lib.hid (fun u (hb : Below u3.heap.size u3 u) => phas_ok A5 t.ev m c5 u ob (Ow.rw_ (fun _ => rfl) (HX3.out.on hb).o) HE.out.1 (by omega) true HRR.out.2)
              go_upto_region 17 with (first | (go_at_call 22; (with_reducible refine (HH1.out u3 (Below.refl _ _)).mono ?_); rintro e u4 ⟨rfl, h1⟩; have HB4 := Lib.hid h1; clear h1; have q0 : u4.cell? ⟨kb, 0, none⟩ = some (.int .i64 ow) := (HB3.out.on HB4.out).b.cell 0; have q1 : u4.cell? ⟨kb, 1, none⟩ = some (.int .i64 oa) := (HB3.out.on HB4.out).b.cell 1; have q2 : u4.cell? ⟨kb, 2, none⟩ = some (.int .i64 ob) := (HB3.out.on HB4.out).b.cell 2) | (go_at_call 22; (with_reducible refine (HH2.out u4 HB4.out).mono ?_); rintro e u5 ⟨rfl, h1⟩; have HB5 := Lib.hid (HB4.out.trans (h1.mono HB4.out.size)); clear h1; have s0 : u5.cell? ⟨kb, 0, none⟩ = some (.int .i64 ow) := (HB3.out.on HB5.out).b.cell 0; have s1 : u5.cell? ⟨kb, 1, none⟩ = some (.int .i64 oa) := (HB3.out.on HB5.out).b.cell 1; have s2 : u5.cell? ⟨kb, 2, none⟩ = some (.int .i64 ob) := (HB3.out.on HB5.out).b.cell 2))
              have HZ6 := Lib.hid (HZ3.out.on HB5.out)
              have HX6 := Lib.hid (HX3.out.on HB5.out)
              go_wp2_with fail
              go_roundw
              case rel => exact ⟨i + 1, m, t, H3, A5, c5, by omega, rfl, by go_num, HZ6, HX6, HE2⟩
              case measure => simp [intOf] <;> omega
          · have e1 : r1 = false := by rw [← hr1]; exact decide_eq_false (fun x => hold (.inl x))
            have e2' : r2 = false := by rw [← hr2]; exact decide_eq_false (fun x => hold (.inr x))
            subst e1; subst e2'
            obtain ⟨t2, ht2⟩ : ∃ t2, (⟨insP ⟨oa, ob⟩ t.l, t.ev ++ [oa, ob]⟩ : Tp) = t2 := ⟨_, rfl⟩
            rw [ht2] at hj
            have HJ := Lib.hid hj
            have HG2 := Lib.hid (gp_set HE.out.2.2.2 hj)
            have HEV := Lib.hid (show t2.ev = t.ev ++ [oa, ob] by rw [← ht2])
            have HE2 := Lib.hid (show t2.ev.length = m + 2 ∧ m + 2 ≤ 2 * (i + 1) ∧ t2.l.length ≤ i + 1 ∧ Gp t2 from ⟨by rw [HEV.out, List.length_append, HE.out.1]; rfl, by omega, by rw [← ht2]; show (insP _ _).length ≤ _; rw [ins_len]; have := HE.out.2.2.1; omega, HG2.out⟩)
            have ha : oa > 0 := by omega
            have hb : ob > 0 := by omega
            have ha2 : decide (0 < oa) = true := decide_eq_true ha
            have hb2 : decide (0 < ob) = true := decide_eq_true hb
            have hab : (oa != ob) = true := by simp; omega
            clear hj ht2 hold hbad
            go_upto_region 16 with (go_at_call 14; (with_reducible refine (z_join HZv.out HE.out.2.2.2 HFW.out oa ob 0 t2 HJ.out).mono ?_); rintro e u3 ⟨H3, rfl, h1, h2⟩; have HZ3 := Lib.hid h1; have HX3 := Lib.hid (HXv.out.step h2); have HB3 := Lib.hid (HB.out.step h2); clear h1 h2)
            clear e0 e1 e2
            have e0 : u3.cell? ⟨kb, 0, none⟩ = some (.int .i64 ow) := HB3.out.b.cell 0
            have e1 : u3.cell? ⟨kb, 1, none⟩ = some (.int .i64 oa) := HB3.out.b.cell 1
            have e2 : u3.cell? ⟨kb, 2, none⟩ = some (.int .i64 ob) := HB3.out.b.cell 2
            have HH1 := Lib.hid (fun u (hb : Below u3.heap.size u3 u) => phas_ok A5 t.ev m c5 u oa (Ow.rw_ (fun _ => rfl) (HX3.out.on hb).o) HE.out.1 (by omega) false HRR.out.1)
            have HH2 := Lib.hid (fun u (hb : Below u3.heap.size u3 u) => phas_ok A5 t.ev m c5 u ob (Ow.rw_ (fun _ => rfl) (HX3.out.on hb).o) HE.out.1 (by omega) false HRR.out.2)
            go_upto_region 17 with (first | (go_at_call 22; (with_reducible refine (HH1.out u3 (Below.refl _ _)).mono ?_); rintro e u4 ⟨rfl, h1⟩; have HB4 := Lib.hid h1; clear h1; have q0 : u4.cell? ⟨kb, 0, none⟩ = some (.int .i64 ow) := (HB3.out.on HB4.out).b.cell 0; have q1 : u4.cell? ⟨kb, 1, none⟩ = some (.int .i64 oa) := (HB3.out.on HB4.out).b.cell 1; have q2 : u4.cell? ⟨kb, 2, none⟩ = some (.int .i64 ob) := (HB3.out.on HB4.out).b.cell 2) | (go_at_call 22; (with_reducible refine (HH2.out u4 HB4.out).mono ?_); rintro e u5 ⟨rfl, h1⟩; have HB5 := Lib.hid (HB4.out.trans (h1.mono HB4.out.size)); clear h1; have s0 : u5.cell? ⟨kb, 0, none⟩ = some (.int .i64 ow) := (HB3.out.on HB5.out).b.cell 0; have s1 : u5.cell? ⟨kb, 1, none⟩ = some (.int .i64 oa) := (HB3.out.on HB5.out).b.cell 1; have s2 : u5.cell? ⟨kb, 2, none⟩ = some (.int .i64 ob) := (HB3.out.on HB5.out).b.cell 2))
            have HZ6 := Lib.hid (HZ3.out.on HB5.out)
            have HX6 := Lib.hid (HX3.out.on HB5.out)
            have HOA := Lib.hid (HX6.out.o.on ((Below.refl u5.heap.size u5).alloc (Nat.le_refl _) (.cells #[.int .i64 oa, .int .i64 ob] 3)))
            have HRE := Lib.hid (two_pi u5 oa ob)
            have HSE := Lib.hid (show W.heap.size ≤ (u5.alloc (.cells #[.int .i64 oa, .int .i64 ob] 3)).heap.size by have := HZ6.out.l.size; rw [World.size_alloc]; omega)
            go_wp2_with (at_builtin; refine wp_rowsM_at roPI rfl (.tmp 118) (.tmp 123) rfl m rfl HE.out.1 HOA.out [oa, ob] 2 u5.heap.size 2 rfl (by omega) rfl HRE.out (by omega) HSE.out (m + 2) rfl ?_; intro g7 d7 w7 ho hg hb hat; have HY := Lib.hid (Lrk.app HX6.out HZ6.out.hi HE.out.1 ho hg hat); clear ho hg hb hat)
            have HZ7 := Lib.hid (HY.out.2.zp HZ6.out (fun y hy => hy))
            go_roundw
            case rel => exact ⟨i + 1, m + 2, t2, H3, some ⟨g7, 0, none⟩, d7, by omega, rfl, by go_num, HZ7, Lib.hid (by rw [HEV.out]; exact HY.out.1), HE2⟩
            case measure => simp [intOf] <;> omega
      · have hi2 : ¬ (i : Int) < (n : Int) := by omega
        have HFW := Lib.hid (show t.l.length ≤ 1000 ∧ t.ev.length ≤ 2000 from ⟨by have := HE.out.2.2.1; omega, by have := HE.out.1; have := HE.out.2.1; omega⟩)
        go_wp2_with fail
        go_loopw [15] (fun v15 wr2 => ∃ k : Nat, k ≤ m ∧ v15 = .int .i64 (k : Int) ∧ Hid (Zp W wr2 H tb t) ∧ Hid (Lrk 3 1 piv W wr2 H A5 c5 t.ev)) (fun v15 _ => m - (intOf v15).toNat)
        case atStart => exact ⟨0, by omega, rfl, HZ, HX⟩
        case round =>
          obtain ⟨k, hk, rfl, HZ8, HX8⟩ := hrel
          by_cases hk1 : k < m
          · have hk2 : (k : Int) < (m : Int) := by omega
            obtain ⟨b6, o6, x, rfl, hx, hc⟩ := rowPI (Ow.rw_ (f := piv) (k := 1) (fun _ => rfl) HX8.out.o) k (by rw [HE.out.1]; exact hk1)
            have x0 := hc wr (Below.refl _ _)
            have HWS := Lib.hid (z_was HZ8.out HE.out.2.2.2 HFW.out x true (decide_eq_true (List.mem_of_getElem? hx)) (Or.inl (List.mem_of_getElem? hx)))
            clear hc hx
            go_wp2_with (go_at_call 18; (with_reducible refine HWS.out.mono ?_); rintro e u9 ⟨rfl, h1⟩; have HZ9 := Lib.hid (HZ8.out.on h1); have HX9 := Lib.hid (HX8.out.on h1); clear h1)
            go_roundw
            case rel => exact ⟨k + 1, by omega, by go_num, HZ9, HX9⟩
            case measure => simp [intOf] <;> omega
          · have hk2 : ¬ (k : Int) < (m : Int) := by omega
            go_wp2_with fail
            go_ret
            exact ⟨rfl, HZ8.out.l⟩
end Go.Proofs.Ytinjldjpncijjaa
