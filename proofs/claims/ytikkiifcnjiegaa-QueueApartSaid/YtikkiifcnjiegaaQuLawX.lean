/- QueueApart: what is done of other names changes nothing of one: the walk. (Written by gen_quap.py.) -/
import Derived.Test.YtikkiifcnjiegaaQuY
namespace Go.Proofs.Ytikkiifcnjiegaa
set_option linter.unusedVariables false
set_option maxRecDepth 100000
set_option linter.unusedSimpArgs false
open Go.RowKit

set_option maxRecDepth 100000 in
set_option maxHeartbeats 16000000 in
theorem walk_QueueApart (A : Option Addr) (l : List Qo) (c : Nat) (s : ByteArray) (W : World) (h : InQo W A l c) (hs : s.size ≤ 140737488355328) :
    Calls Try.prog 6 #[.slice A l.length c, .string s] W fun e w' => e = .returned (.bool true) ∧ Below W.heap.size W w' := by
  have HI := Lib.hid h
  have HHD := Lib.hid (fun u => qhead_ok u)
  have HNEW := Lib.hid (fun u (hb : Below W.heap.size W u) => w_qnew (W := W) (u := u) hb)
  have HGR := Lib.hid (fun u (hb : Below W.heap.size W u) => qgreat_ok A l c u (h.on hb))
  obtain ⟨gr, hgr⟩ : ∃ gr, grQ l = gr := ⟨_, rfl⟩
  have HGB := Lib.hid hgr
  simp only [hgr] at HGR
  obtain ⟨n, hn⟩ : ∃ n, l.length = n := ⟨_, rfl⟩
  have HN := Lib.hid hn
  rw [hn] at HGR ⊢
  clear h hgr hn
  have HS := Lib.hid hs
  clear hs
  cases gr with
  | true =>
    go_enter Try.func6, Try.ntmps6
    go_upto_region 2 with (go_at_call 9; (with_reducible refine (HHD.out _).mono ?_); rintro e u1 ⟨rfl, hb⟩; have HB1 := Lib.hid hb; clear hb)
    go_upto_region 3 with (go_at_call 10; (with_reducible refine (HNEW.out _ HB1.out).mono ?_); rintro e u2 ⟨G, qb, rfl, h1, -, -⟩; have HL2 := Lib.hid h1; clear h1)
    go_upto_region 4 with (go_at_call 10; (with_reducible refine (HNEW.out _ HL2.out.l).mono ?_); rintro e v2 ⟨H, rb, rfl, h1, h2, h3⟩; have HP2 := Lib.hid (show W2 W v2 G qb [] H rb [] from ⟨HL2.out.on h2, h1, fun y hy hH => by have := HL2.out.hi y hy; have := h3 y hH; omega⟩); clear h1 h2 h3)
    go_wp2_with (go_at_call 12; (with_reducible refine (HGR.out _ HP2.out.l.l).mono ?_); rintro e u3 ⟨rfl, hb⟩; have HP3 := Lib.hid (HP2.out.on hb); clear hb)
    go_ret
    exact ⟨rfl, HP3.out.l.l⟩
  | false =>
    by_cases h60 : n > 60
    · have h60b : (n : Int) > 60 := by omega
      go_enter Try.func6, Try.ntmps6
      go_upto_region 2 with (go_at_call 9; (with_reducible refine (HHD.out _).mono ?_); rintro e u1 ⟨rfl, hb⟩; have HB1 := Lib.hid hb; clear hb)
      go_upto_region 3 with (go_at_call 10; (with_reducible refine (HNEW.out _ HB1.out).mono ?_); rintro e u2 ⟨G, qb, rfl, h1, -, -⟩; have HL2 := Lib.hid h1; clear h1)
      go_upto_region 4 with (go_at_call 10; (with_reducible refine (HNEW.out _ HL2.out.l).mono ?_); rintro e v2 ⟨H, rb, rfl, h1, h2, h3⟩; have HP2 := Lib.hid (show W2 W v2 G qb [] H rb [] from ⟨HL2.out.on h2, h1, fun y hy hH => by have := HL2.out.hi y hy; have := h3 y hH; omega⟩); clear h1 h2 h3)
      go_wp2_with (go_at_call 12; (with_reducible refine (HGR.out _ HP2.out.l.l).mono ?_); rintro e u3 ⟨rfl, hb⟩; have HP3 := Lib.hid (HP2.out.on hb); clear hb)
      go_ret
      exact ⟨rfl, HP3.out.l.l⟩
    have h60b : ¬ (n : Int) > 60 := by omega
    have h60c : decide ((n : Int) > 60) = false := decide_eq_false h60b
    have h60d : decide ((60 : Int) < (n : Int)) = false := decide_eq_false (by omega)
    go_enter Try.func6, Try.ntmps6
    go_upto_region 2 with (go_at_call 9; (with_reducible refine (HHD.out _).mono ?_); rintro e u1 ⟨rfl, hb⟩; have HB1 := Lib.hid hb; clear hb)
    go_upto_region 3 with (go_at_call 10; (with_reducible refine (HNEW.out _ HB1.out).mono ?_); rintro e u2 ⟨G, qb, rfl, h1, -, -⟩; have HL2 := Lib.hid h1; clear h1)
    go_upto_region 4 with (go_at_call 10; (with_reducible refine (HNEW.out _ HL2.out.l).mono ?_); rintro e v2 ⟨H, rb, rfl, h1, h2, h3⟩; have HP2 := Lib.hid (show W2 W v2 G qb [] H rb [] from ⟨HL2.out.on h2, h1, fun y hy hH => by have := HL2.out.hi y hy; have := h3 y hH; omega⟩); clear h1 h2 h3)
    go_wp2_with (go_at_call 12; (with_reducible refine (HGR.out _ HP2.out.l.l).mono ?_); rintro e u3 ⟨rfl, hb⟩; have HP3 := Lib.hid (HP2.out.on hb); clear hb)
    clear h60b h60c h60d
    go_loopw [8] (fun v8 wr => ∃ (i : Nat) (G H : List Nat) (q r : List Qn), i ≤ n ∧ v8 = .int .i64 (i : Int) ∧ Hid (W2 W wr G qb q H rb r) ∧ Hid (Qa q r s i)) (fun v8 _ => n - (intOf v8).toNat)
    case atStart => exact ⟨0, G, H, [], [], by omega, rfl, HP3, Lib.hid (qa_nil s)⟩
    case round =>
      obtain ⟨i, G1, H1, q, r, hi, rfl, HW, HA⟩ := hrel
      by_cases hi1 : i < n
      · have hi2 : (i : Int) < (n : Int) := by omega
        have hi64 : i < 64 := by omega
        obtain ⟨bx, o, ox, rfl, hx, hsm, hc⟩ := HI.out.at3 i (by rw [HN.out]; exact hi1)
        have HC := Lib.hid hc
        obtain ⟨ow, on, oi⟩ := ox
        have HSZ := Lib.hid (show on.size ≤ 140737488355328 from hsm.1)
        have HWF := Lib.hid (show WfI oi from hsm.2)
        clear hx hsm hc
        dsimp only at HC
        obtain ⟨d0, d1, d2⟩ := HC.out wr (HW.out.l.l)
        go_upto_region 10 with fail
        obtain ⟨kb, hkb⟩ : ∃ kb, wr.heap.size = kb := ⟨_, rfl⟩
        obtain ⟨v, hv⟩ : ∃ v, wr.alloc (.cells #[.int .i64 ow, .string on, .int .i64 oi] 30) = v := ⟨_, rfl⟩
        have HB := Lib.hid (show Bz v (G1 ++ H1) kb 30 #[.int .i64 ow, .string on, .int .i64 oi] by rw [← hv, ← hkb]; exact Bz.new HW.out.hi _ _)
        have HWv := Lib.hid (show W2 W v G1 qb q H1 rb r by rw [← hv]; exact HW.out.on ((Below.refl _ _).alloc (Nat.le_refl _) _))
        have HKB := Lib.hid (show W.heap.size ≤ kb by rw [← hkb]; exact HW.out.l.l.size)
        try dsimp only
        rw [hv]
        try rw [hkb]
        clear hv hkb d0 d1 d2
        have e0 : v.cell? ⟨kb, 0, none⟩ = some (.int .i64 ow) := HB.out.b.cell 0
        have e1 : v.cell? ⟨kb, 1, none⟩ = some (.string on) := HB.out.b.cell 1
        have e2 : v.cell? ⟨kb, 2, none⟩ = some (.int .i64 oi) := HB.out.b.cell 2
        have e2f := HB.out.b.frozen 2
        obtain ⟨d, hd0, hd1, hd2, hd3⟩ := ap_id oi
        have hw1 : IntKind.i64.wrap (2 * oi.tmod 1000) = d := by rw [hd0]; exact wrap_small (by omega) (by omega)
        have hw2 : IntKind.i64.wrap (d + 1) = d + 1 := wrap_small (by omega) (by omega)
        have HD := Lib.hid (And.intro (show WfI d from wf_small (by omega) (by omega)) (And.intro (show WfI (d + 1) from wf_small (by omega) (by omega)) (And.intro hd3 (show ¬ (d + 1) % 2 = 0 by omega))))
        obtain ⟨en, hen⟩ : ∃ en, (on.toList == s.toList) = en := ⟨_, rfl⟩
        have HEN := Lib.hid (show nmQ on s = en from hen)
        clear hd0 hd1 hd2 hd3
        cases en with
        | true =>
          obtain rfl : on = s := (nmQ_iff _ _).1 HEN.out
          go_upto_region 14 with fail
          obtain ⟨x, hx⟩ : ∃ x, v.setCell ⟨kb, 2, none⟩ (.int .i64 d) = x := ⟨_, rfl⟩
          have hxs := HWv.out.set HB.out HKB.out 2 (.int .i64 d)
          rw [hx] at hxs
          have HWx := Lib.hid hxs.1
          have HBx := Lib.hid (show Bz x (G1 ++ H1) kb 30 #[.int .i64 ow, .string on, .int .i64 d] from hxs.2)
          rw [hx]
          clear hx hxs hw1 hw2 e0 e1 e2 e2f
          have e0 : x.cell? ⟨kb, 0, none⟩ = some (.int .i64 ow) := HBx.out.b.cell 0
          have e1 : x.cell? ⟨kb, 1, none⟩ = some (.string on) := HBx.out.b.cell 1
          have e2 : x.cell? ⟨kb, 2, none⟩ = some (.int .i64 d) := HBx.out.b.cell 2
          by_cases h3 : ow = 3
          · have h3b : (ow == 3) = true := by simp [h3]
            obtain ⟨⟨a, is, q2⟩, hR⟩ : ∃ R, tkQ q on = R := ⟨_, rfl⟩
            obtain ⟨⟨a2, is2, r2⟩, hR2⟩ : ∃ R, tkQ r on = R := ⟨_, rfl⟩
            have ho := HA.out.takeOwn
            rw [hR, hR2] at ho
            obtain ⟨ho1, ho2, ho3⟩ := ho
            dsimp only at ho1 ho2 ho3
            subst ho1; subst ho2
            have HR := Lib.hid (And.intro hR hR2)
            have HQ := Lib.hid ho3
            have hne : (a != a) = false := by simp
            have hni : (is != is) = false := by simp
            clear hR hR2 ho3
            go_upto_region 16 with (go_at_call 13; (with_reducible refine (w_qtake HWx.out.l on HSZ.out a is q2 HR.out.1).mono ?_); rintro e u6 ⟨rfl, h1, h2⟩; have HW6 := Lib.hid (HWx.out.left h2 h1); have HB6 := Lib.hid (HBx.out.step (h2.left H1)); clear h1 h2)
            clear e0 e1 e2
            have e0 : u6.cell? ⟨kb, 0, none⟩ = some (.int .i64 ow) := HB6.out.b.cell 0
            have e1 : u6.cell? ⟨kb, 1, none⟩ = some (.string on) := HB6.out.b.cell 1
            have e2 : u6.cell? ⟨kb, 2, none⟩ = some (.int .i64 d) := HB6.out.b.cell 2
            go_upto_region 18 with (go_at_call 13; (with_reducible refine (w_qtake HW6.out.r on HSZ.out a is r2 HR.out.2).mono ?_); rintro e u7 ⟨rfl, h1, h2⟩; have HW7 := Lib.hid (HW6.out.right h2 h1); have HB7 := Lib.hid (HB6.out.step (h2.right G1)); clear h1 h2)
            clear e0 e1 e2
            obtain ⟨L, hL⟩ : ∃ L, liQ q2 on = L := ⟨_, rfl⟩
            obtain ⟨m, hm⟩ : ∃ m, L.length = m := ⟨_, rfl⟩
            have HLQ := Lib.hid (And.intro hL hm)
            have HLR := Lib.hid (show liQ r2 on = L ∧ L.length = m from ⟨by rw [← HQ.out.li]; exact hL, hm⟩)
            have hm8 : m ≤ 8 := by rw [← hm, ← hL]; exact HQ.out.gq.row on
            clear hL hm
            go_wp2_with (first
              | (go_at_call 23; (with_reducible refine (w_qlist HW7.out.l on HS.out L m HLQ.out).mono ?_); rintro e u8 ⟨A8, c8, rfl, h1, h2⟩; have HR8 := Lib.hid (h1.ri (K := []) (fun _ hx => by cases hx)); have HW8 := Lib.hid (HW7.out.on h2); clear h1 h2)
              | (go_at_call 23; (with_reducible refine (w_qlist HW8.out.r on HS.out L m HLR.out).mono ?_); rintro e u9 ⟨A9, c9, rfl, h1, h2⟩; have HR9 := Lib.hid (h1.ri (K := []) (fun _ hx => by cases hx)); have HS9 := Lib.hid (HR8.out.below h2 (Nat.le_refl _)); have HW9 := Lib.hid (HW8.out.on h2); clear h1 h2)
              | (go_at_call 22; (with_reducible refine (same_b A8 A9 c8 c9 L _ _ u9 m HLQ.out.2 HS9.out HR9.out (by omega)).mono ?_); rintro e ua ⟨rfl, h1⟩; have HWa := Lib.hid (HW9.out.on h1.b0); clear h1))
            go_roundw
            case rel => exact ⟨i + 1, G1, H1, q2, r2, by omega, by go_num, HWa, HQ⟩
            case measure => simp [intOf]; omega
          · have h3b : (ow == 3) = false := by simp [h3]
            by_cases h4 : ow = 4
            · have h4b : (ow == 4) = true := by simp [h4]
              obtain ⟨⟨is, q2⟩, hR⟩ : ∃ R, drQ q d = R := ⟨_, rfl⟩
              obtain ⟨⟨is2, r2⟩, hR2⟩ : ∃ R, drQ r d = R := ⟨_, rfl⟩
              have ho := HA.out.dropOwn HD.out.2.2.1
              rw [hR, hR2] at ho
              obtain ⟨ho1, ho3⟩ := ho
              dsimp only at ho1 ho3
              subst ho1
              have HR := Lib.hid (And.intro hR hR2)
              have HQ := Lib.hid ho3
              have hni : (is != is) = false := by simp
              clear hR hR2 ho3
              go_upto_region 22 with (go_at_call 15; (with_reducible refine (w_qdrop HWx.out.l d HD.out.1 is q2 HR.out.1).mono ?_); rintro e u6 ⟨rfl, h1, h2⟩; have HW6 := Lib.hid (HWx.out.left h2 h1); have HB6 := Lib.hid (HBx.out.step (h2.left H1)); clear h1 h2)
              clear e0 e1 e2
              have e0 : u6.cell? ⟨kb, 0, none⟩ = some (.int .i64 ow) := HB6.out.b.cell 0
              have e1 : u6.cell? ⟨kb, 1, none⟩ = some (.string on) := HB6.out.b.cell 1
              have e2 : u6.cell? ⟨kb, 2, none⟩ = some (.int .i64 d) := HB6.out.b.cell 2
              go_upto_region 27 with (go_at_call 15; (with_reducible refine (w_qdrop HW6.out.r d HD.out.1 is r2 HR.out.2).mono ?_); rintro e u7 ⟨rfl, h1, h2⟩; have HW7 := Lib.hid (HW6.out.right h2 h1); have HB7 := Lib.hid (HB6.out.step (h2.right G1)); clear h1 h2)
              clear e0 e1 e2
              obtain ⟨L, hL⟩ : ∃ L, liQ q2 on = L := ⟨_, rfl⟩
              obtain ⟨m, hm⟩ : ∃ m, L.length = m := ⟨_, rfl⟩
              have HLQ := Lib.hid (And.intro hL hm)
              have HLR := Lib.hid (show liQ r2 on = L ∧ L.length = m from ⟨by rw [← HQ.out.li]; exact hL, hm⟩)
              have hm8 : m ≤ 8 := by rw [← hm, ← hL]; exact HQ.out.gq.row on
              clear hL hm
              go_wp2_with (first
                | (go_at_call 23; (with_reducible refine (w_qlist HW7.out.l on HS.out L m HLQ.out).mono ?_); rintro e u8 ⟨A8, c8, rfl, h1, h2⟩; have HR8 := Lib.hid (h1.ri (K := []) (fun _ hx => by cases hx)); have HW8 := Lib.hid (HW7.out.on h2); clear h1 h2)
                | (go_at_call 23; (with_reducible refine (w_qlist HW8.out.r on HS.out L m HLR.out).mono ?_); rintro e u9 ⟨A9, c9, rfl, h1, h2⟩; have HR9 := Lib.hid (h1.ri (K := []) (fun _ hx => by cases hx)); have HS9 := Lib.hid (HR8.out.below h2 (Nat.le_refl _)); have HW9 := Lib.hid (HW8.out.on h2); clear h1 h2)
                | (go_at_call 22; (with_reducible refine (same_b A8 A9 c8 c9 L _ _ u9 m HLQ.out.2 HS9.out HR9.out (by omega)).mono ?_); rintro e ua ⟨rfl, h1⟩; have HWa := Lib.hid (HW9.out.on h1.b0); clear h1))
              go_roundw
              case rel => exact ⟨i + 1, G1, H1, q2, r2, by omega, by go_num, HWa, HQ⟩
              case measure => simp [intOf]; omega
            · have h4b : (ow == 4) = false := by simp [h4]
              obtain ⟨⟨er, q2⟩, hR⟩ : ∃ R, puQ q on d = R := ⟨_, rfl⟩
              obtain ⟨⟨er2, r2⟩, hR2⟩ : ∃ R, puQ r on d = R := ⟨_, rfl⟩
              have ho := HA.out.putOwn hi64 HD.out.2.2.1
              rw [hR, hR2] at ho
              obtain ⟨ho1, ho3⟩ := ho
              dsimp only at ho1 ho3
              subst ho1
              have HR := Lib.hid (And.intro hR hR2)
              have HQ := Lib.hid ho3
              have hne : (er != er) = false := by simp
              clear hR hR2 ho3
              go_upto_region 25 with (go_at_call 17; (with_reducible refine (w_qput HWx.out.l on d HSZ.out HD.out.1 er q2 HR.out.1).mono ?_); rintro e u6 ⟨G6, rfl, h1, h2⟩; have HW6 := Lib.hid (HWx.out.left h2 h1); have HB6 := Lib.hid (HBx.out.step (h2.left H1)); clear h1 h2)
              clear e0 e1 e2
              have e0 : u6.cell? ⟨kb, 0, none⟩ = some (.int .i64 ow) := HB6.out.b.cell 0
              have e1 : u6.cell? ⟨kb, 1, none⟩ = some (.string on) := HB6.out.b.cell 1
              have e2 : u6.cell? ⟨kb, 2, none⟩ = some (.int .i64 d) := HB6.out.b.cell 2
              go_upto_region 27 with (go_at_call 17; (with_reducible refine (w_qput HW6.out.r on d HSZ.out HD.out.1 er r2 HR.out.2).mono ?_); rintro e u7 ⟨H7, rfl, h1, h2⟩; have HW7 := Lib.hid (HW6.out.right h2 h1); have HB7 := Lib.hid (HB6.out.step (h2.right G6)); clear h1 h2)
              clear e0 e1 e2
              obtain ⟨L, hL⟩ : ∃ L, liQ q2 on = L := ⟨_, rfl⟩
              obtain ⟨m, hm⟩ : ∃ m, L.length = m := ⟨_, rfl⟩
              have HLQ := Lib.hid (And.intro hL hm)
              have HLR := Lib.hid (show liQ r2 on = L ∧ L.length = m from ⟨by rw [← HQ.out.li]; exact hL, hm⟩)
              have hm8 : m ≤ 8 := by rw [← hm, ← hL]; exact HQ.out.gq.row on
              clear hL hm
              go_wp2_with (first
                | (go_at_call 23; (with_reducible refine (w_qlist HW7.out.l on HS.out L m HLQ.out).mono ?_); rintro e u8 ⟨A8, c8, rfl, h1, h2⟩; have HR8 := Lib.hid (h1.ri (K := []) (fun _ hx => by cases hx)); have HW8 := Lib.hid (HW7.out.on h2); clear h1 h2)
                | (go_at_call 23; (with_reducible refine (w_qlist HW8.out.r on HS.out L m HLR.out).mono ?_); rintro e u9 ⟨A9, c9, rfl, h1, h2⟩; have HR9 := Lib.hid (h1.ri (K := []) (fun _ hx => by cases hx)); have HS9 := Lib.hid (HR8.out.below h2 (Nat.le_refl _)); have HW9 := Lib.hid (HW8.out.on h2); clear h1 h2)
                | (go_at_call 22; (with_reducible refine (same_b A8 A9 c8 c9 L _ _ u9 m HLQ.out.2 HS9.out HR9.out (by omega)).mono ?_); rintro e ua ⟨rfl, h1⟩; have HWa := Lib.hid (HW9.out.on h1.b0); clear h1))
              go_roundw
              case rel => exact ⟨i + 1, G6, H7, q2, r2, by omega, by go_num, HWa, HQ⟩
              case measure => simp [intOf]; omega
        | false =>
          have HNE := Lib.hid (show on ≠ s from fun e => by rw [e, nmQ_same] at HEN; exact absurd HEN.out (by decide))
          go_upto_region 14 with fail
          obtain ⟨di, hdi⟩ : ∃ di, d + 1 = di := ⟨_, rfl⟩
          rw [hdi] at HD
          try rw [hdi]
          obtain ⟨x, hx⟩ : ∃ x, (v.setCell ⟨kb, 2, none⟩ (.int .i64 d)).setCell ⟨kb, 2, none⟩ (.int .i64 di) = x := ⟨_, rfl⟩
          have hxs := HWv.out.set HB.out HKB.out 2 (.int .i64 d)
          have hxt := hxs.1.set hxs.2 HKB.out 2 (.int .i64 di)
          rw [hx] at hxt
          have HWx := Lib.hid hxt.1
          have HBx := Lib.hid (show Bz x (G1 ++ H1) kb 30 #[.int .i64 ow, .string on, .int .i64 di] from hxt.2)
          rw [hx]
          clear hx hxs hxt hw1 hw2 e0 e1 e2 e2f hdi
          have e0 : x.cell? ⟨kb, 0, none⟩ = some (.int .i64 ow) := HBx.out.b.cell 0
          have e1 : x.cell? ⟨kb, 1, none⟩ = some (.string on) := HBx.out.b.cell 1
          have e2 : x.cell? ⟨kb, 2, none⟩ = some (.int .i64 di) := HBx.out.b.cell 2
          by_cases h3 : ow = 3
          · have h3b : (ow == 3) = true := by simp [h3]
            obtain ⟨⟨a, is, q2⟩, hR⟩ : ∃ R, tkQ q on = R := ⟨_, rfl⟩
            have ho := HA.out.takeOther HNE.out
            rw [hR] at ho
            have HR := Lib.hid hR
            have HQ := Lib.hid (show Qa q2 r s (i + 1) from ho)
            clear hR ho
            go_upto_region 27 with (go_at_call 13; (with_reducible refine (w_qtake HWx.out.l on HSZ.out a is q2 HR.out).mono ?_); rintro e u6 ⟨rfl, h1, h2⟩; have HW6 := Lib.hid (HWx.out.left h2 h1); clear h1 h2)
            clear e0 e1 e2
            obtain ⟨L, hL⟩ : ∃ L, liQ q2 s = L := ⟨_, rfl⟩
            obtain ⟨m, hm⟩ : ∃ m, L.length = m := ⟨_, rfl⟩
            have HLQ := Lib.hid (And.intro hL hm)
            have HLR := Lib.hid (show liQ r s = L ∧ L.length = m from ⟨by rw [← HQ.out.li]; exact hL, hm⟩)
            have hm8 : m ≤ 8 := by rw [← hm, ← hL]; exact HQ.out.gq.row s
            clear hL hm
            go_wp2_with (first
              | (go_at_call 23; (with_reducible refine (w_qlist HW6.out.l s HS.out L m HLQ.out).mono ?_); rintro e u8 ⟨A8, c8, rfl, h1, h2⟩; have HR8 := Lib.hid (h1.ri (K := []) (fun _ hx => by cases hx)); have HW8 := Lib.hid (HW6.out.on h2); clear h1 h2)
              | (go_at_call 23; (with_reducible refine (w_qlist HW8.out.r s HS.out L m HLR.out).mono ?_); rintro e u9 ⟨A9, c9, rfl, h1, h2⟩; have HR9 := Lib.hid (h1.ri (K := []) (fun _ hx => by cases hx)); have HS9 := Lib.hid (HR8.out.below h2 (Nat.le_refl _)); have HW9 := Lib.hid (HW8.out.on h2); clear h1 h2)
              | (go_at_call 22; (with_reducible refine (same_b A8 A9 c8 c9 L _ _ u9 m HLQ.out.2 HS9.out HR9.out (by omega)).mono ?_); rintro e ua ⟨rfl, h1⟩; have HWa := Lib.hid (HW9.out.on h1.b0); clear h1))
            go_roundw
            case rel => exact ⟨i + 1, G1, H1, q2, r, by omega, by go_num, HWa, HQ⟩
            case measure => simp [intOf]; omega
          · have h3b : (ow == 3) = false := by simp [h3]
            by_cases h4 : ow = 4
            · have h4b : (ow == 4) = true := by simp [h4]
              obtain ⟨⟨is, q2⟩, hR⟩ : ∃ R, drQ q di = R := ⟨_, rfl⟩
              have ho := HA.out.dropOther HD.out.2.2.2
              rw [hR] at ho
              have HR := Lib.hid hR
              have HQ := Lib.hid (show Qa q2 r s (i + 1) from ho)
              clear hR ho
              go_upto_region 27 with (go_at_call 15; (with_reducible refine (w_qdrop HWx.out.l di HD.out.2.1 is q2 HR.out).mono ?_); rintro e u6 ⟨rfl, h1, h2⟩; have HW6 := Lib.hid (HWx.out.left h2 h1); clear h1 h2)
              clear e0 e1 e2
              obtain ⟨L, hL⟩ : ∃ L, liQ q2 s = L := ⟨_, rfl⟩
              obtain ⟨m, hm⟩ : ∃ m, L.length = m := ⟨_, rfl⟩
              have HLQ := Lib.hid (And.intro hL hm)
              have HLR := Lib.hid (show liQ r s = L ∧ L.length = m from ⟨by rw [← HQ.out.li]; exact hL, hm⟩)
              have hm8 : m ≤ 8 := by rw [← hm, ← hL]; exact HQ.out.gq.row s
              clear hL hm
              go_wp2_with (first
                | (go_at_call 23; (with_reducible refine (w_qlist HW6.out.l s HS.out L m HLQ.out).mono ?_); rintro e u8 ⟨A8, c8, rfl, h1, h2⟩; have HR8 := Lib.hid (h1.ri (K := []) (fun _ hx => by cases hx)); have HW8 := Lib.hid (HW6.out.on h2); clear h1 h2)
                | (go_at_call 23; (with_reducible refine (w_qlist HW8.out.r s HS.out L m HLR.out).mono ?_); rintro e u9 ⟨A9, c9, rfl, h1, h2⟩; have HR9 := Lib.hid (h1.ri (K := []) (fun _ hx => by cases hx)); have HS9 := Lib.hid (HR8.out.below h2 (Nat.le_refl _)); have HW9 := Lib.hid (HW8.out.on h2); clear h1 h2)
                | (go_at_call 22; (with_reducible refine (same_b A8 A9 c8 c9 L _ _ u9 m HLQ.out.2 HS9.out HR9.out (by omega)).mono ?_); rintro e ua ⟨rfl, h1⟩; have HWa := Lib.hid (HW9.out.on h1.b0); clear h1))
              go_roundw
              case rel => exact ⟨i + 1, G1, H1, q2, r, by omega, by go_num, HWa, HQ⟩
              case measure => simp [intOf]; omega
            · have h4b : (ow == 4) = false := by simp [h4]
              obtain ⟨⟨er, q2⟩, hR⟩ : ∃ R, puQ q on di = R := ⟨_, rfl⟩
              have ho := HA.out.putOther HNE.out HD.out.2.2.2
              rw [hR] at ho
              have HR := Lib.hid hR
              have HQ := Lib.hid (show Qa q2 r s (i + 1) from ho)
              clear hR ho
              go_upto_region 27 with (go_at_call 17; (with_reducible refine (w_qput HWx.out.l on di HSZ.out HD.out.2.1 er q2 HR.out).mono ?_); rintro e u6 ⟨G6, rfl, h1, h2⟩; have HW6 := Lib.hid (HWx.out.left h2 h1); clear h1 h2)
              clear e0 e1 e2
              obtain ⟨L, hL⟩ : ∃ L, liQ q2 s = L := ⟨_, rfl⟩
              obtain ⟨m, hm⟩ : ∃ m, L.length = m := ⟨_, rfl⟩
              have HLQ := Lib.hid (And.intro hL hm)
              have HLR := Lib.hid (show liQ r s = L ∧ L.length = m from ⟨by rw [← HQ.out.li]; exact hL, hm⟩)
              have hm8 : m ≤ 8 := by rw [← hm, ← hL]; exact HQ.out.gq.row s
              clear hL hm
              go_wp2_with (first
                | (go_at_call 23; (with_reducible refine (w_qlist HW6.out.l s HS.out L m HLQ.out).mono ?_); rintro e u8 ⟨A8, c8, rfl, h1, h2⟩; have HR8 := Lib.hid (h1.ri (K := []) (fun _ hx => by cases hx)); have HW8 := Lib.hid (HW6.out.on h2); clear h1 h2)
                | (go_at_call 23; (with_reducible refine (w_qlist HW8.out.r s HS.out L m HLR.out).mono ?_); rintro e u9 ⟨A9, c9, rfl, h1, h2⟩; have HR9 := Lib.hid (h1.ri (K := []) (fun _ hx => by cases hx)); have HS9 := Lib.hid (HR8.out.below h2 (Nat.le_refl _)); have HW9 := Lib.hid (HW8.out.on h2); clear h1 h2)
                | (go_at_call 22; (with_reducible refine (same_b A8 A9 c8 c9 L _ _ u9 m HLQ.out.2 HS9.out HR9.out (by omega)).mono ?_); rintro e ua ⟨rfl, h1⟩; have HWa := Lib.hid (HW9.out.on h1.b0); clear h1))
              go_roundw
              case rel => exact ⟨i + 1, G6, H1, q2, r, by omega, by go_num, HWa, HQ⟩
              case measure => simp [intOf]; omega
      · have hi2 : ¬ (i : Int) < (n : Int) := by omega
        go_wp2_with fail
        go_ret
        exact ⟨rfl, HW.out.l.l⟩
end Go.Proofs.Ytikkiifcnjiegaa
