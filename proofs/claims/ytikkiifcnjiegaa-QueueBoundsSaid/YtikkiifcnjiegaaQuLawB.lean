/- QueueBounds: no more wait than may; what is refused changes nothing: the walk. (Written by gen_qubo.py.) -/
import Derived.Test.YtikkiifcnjiegaaQuG
namespace Go.Proofs.Ytikkiifcnjiegaa
set_option linter.unusedVariables false
set_option maxRecDepth 100000
set_option linter.unusedSimpArgs false
open Go.RowKit

set_option maxRecDepth 100000 in
set_option maxHeartbeats 16000000 in
theorem walk_QueueBounds (A : Option Addr) (l : List Qo) (c : Nat) (W : World) (h : InQo W A l c) :
    Calls Try.prog 5 #[.slice A l.length c] W fun e w' => e = .returned (.bool true) ∧ Below W.heap.size W w' := by
  have HI := Lib.hid h
  have HHD := Lib.hid (fun u => qhead_ok u)
  have HNEW := Lib.hid (fun u (hb : Below W.heap.size W u) => w_qnew (W := W) (u := u) hb)
  have HGR := Lib.hid (fun u (hb : Below W.heap.size W u) => qgreat_ok A l c u (h.on hb))
  obtain ⟨gr, hgr⟩ : ∃ gr, grQ l = gr := ⟨_, rfl⟩
  have HGB := Lib.hid hgr
  simp only [hgr] at HGR
  obtain ⟨n, hn⟩ : ∃ n, l.length = n := ⟨_, rfl⟩
  have HN := Lib.hid hn
  rw [hn] at HGR ⊢
  clear h hgr hn
  cases gr with
  | true =>
    go_enter Try.func5, Try.ntmps5
    go_wp2_with (first | (go_at_call 9; (with_reducible refine (HHD.out _).mono ?_); rintro e u1 ⟨rfl, hb⟩; have HB1 := Lib.hid hb; clear hb) | (go_at_call 10; (with_reducible refine (HNEW.out _ HB1.out).mono ?_); rintro e u2 ⟨G, qb, rfl, h1, -, -⟩; have HL2 := Lib.hid h1; clear h1) | (go_at_call 12; (with_reducible refine (HGR.out _ HL2.out.l).mono ?_); rintro e u3 ⟨rfl, hb⟩; have HL3 := Lib.hid (HL2.out.on hb); clear hb))
    go_ret
    exact ⟨rfl, HL3.out.l⟩
  | false =>
    have hfew : n ≤ 400 := by rw [← HN.out]; exact grQ_few HGB.out
    go_enter Try.func5, Try.ntmps5
    go_wp2_with (first | (go_at_call 9; (with_reducible refine (HHD.out _).mono ?_); rintro e u1 ⟨rfl, hb⟩; have HB1 := Lib.hid hb; clear hb) | (go_at_call 10; (with_reducible refine (HNEW.out _ HB1.out).mono ?_); rintro e u2 ⟨G, qb, rfl, h1, -, -⟩; have HL2 := Lib.hid h1; clear h1) | (go_at_call 12; (with_reducible refine (HGR.out _ HL2.out.l).mono ?_); rintro e u3 ⟨rfl, hb⟩; have HL3 := Lib.hid (HL2.out.on hb); clear hb))
    go_loopw [5] (fun v5 wr => ∃ (i : Nat) (G : List Nat) (q : List Qn), i ≤ n ∧ v5 = .int .i64 (i : Int) ∧ Hid (Wq W wr G qb q)) (fun v5 _ => n - (intOf v5).toNat)
    case atStart => exact ⟨0, G, [], by omega, rfl, HL3⟩
    case round =>
      obtain ⟨i, G1, q, hi, rfl, HL⟩ := hrel
      by_cases hi1 : i < n
      · have hi2 : (i : Int) < (n : Int) := by omega
        obtain ⟨bx, o, ox, rfl, hx, hsm, hc⟩ := HI.out.at3 i (by rw [HN.out]; exact hi1)
        have HC := Lib.hid hc
        obtain ⟨ow, on, oi⟩ := ox
        have HSZ := Lib.hid (show on.size ≤ 140737488355328 from hsm.1)
        have HWF := Lib.hid (show WfI oi from hsm.2)
        clear hx hsm hc
        dsimp only at HC
        obtain ⟨d0, d1, d2⟩ := HC.out wr (HL.out.l)
        go_upto_region 9 with fail
        obtain ⟨kb, hkb⟩ : ∃ kb, wr.heap.size = kb := ⟨_, rfl⟩
        obtain ⟨v, hv⟩ : ∃ v, wr.alloc (.cells #[.int .i64 ow, .string on, .int .i64 oi] 30) = v := ⟨_, rfl⟩
        have HB := Lib.hid (show Bz v G1 kb 30 #[.int .i64 ow, .string on, .int .i64 oi] by rw [← hv, ← hkb]; exact Bz.new HL.out.hi _ _)
        have HLv := Lib.hid (show Wq W v G1 qb q by rw [← hv]; exact HL.out.on ((Below.refl _ _).alloc (Nat.le_refl _) _))
        try dsimp only
        rw [hv]
        try rw [hkb]
        clear hv hkb d0 d1 d2
        have e0 : v.cell? ⟨kb, 0, none⟩ = some (.int .i64 ow) := HB.out.b.cell 0
        have e1 : v.cell? ⟨kb, 1, none⟩ = some (.string on) := HB.out.b.cell 1
        have e2 : v.cell? ⟨kb, 2, none⟩ = some (.int .i64 oi) := HB.out.b.cell 2
        obtain ⟨M, hM⟩ : ∃ M, q.length = M := ⟨_, rfl⟩
        obtain ⟨L, hL⟩ : ∃ L, liQ q on = L := ⟨_, rfl⟩
        obtain ⟨m, hm⟩ : ∃ m, L.length = m := ⟨_, rfl⟩
        have HMM := Lib.hid hM
        have HLL := Lib.hid (And.intro hL hm)
        have hm8 : m ≤ 8 := by rw [← hm, ← hL]; exact HLv.out.ok.row on
        have hM64 : M ≤ 64 := by rw [← hM]; exact HLv.out.ok.few
        clear hM hL hm
        go_upto_region 10 with (go_at_call 21; (with_reducible refine (w_qmany HLv.out M HMM.out).mono ?_); rintro e u4 ⟨rfl, h1⟩; have HL4 := Lib.hid (HLv.out.on h1); have HB4 := Lib.hid (HB.out.on h1); clear h1)
        clear e0 e1 e2
        have e0 : u4.cell? ⟨kb, 0, none⟩ = some (.int .i64 ow) := HB4.out.b.cell 0
        have e1 : u4.cell? ⟨kb, 1, none⟩ = some (.string on) := HB4.out.b.cell 1
        have e2 : u4.cell? ⟨kb, 2, none⟩ = some (.int .i64 oi) := HB4.out.b.cell 2
        go_upto_region 11 with (go_at_call 23; (with_reducible refine (w_qlist HL4.out on HSZ.out L m HLL.out).mono ?_); rintro e u5 ⟨A5, c5, rfl, h1, h2⟩; have HR5 := Lib.hid (h1.ri (K := G1) HL4.out.hi); have HL5 := Lib.hid (HL4.out.on h2); have HB5 := Lib.hid (HB4.out.on h2); clear h1 h2)
        clear e0 e1 e2
        have e0 : u5.cell? ⟨kb, 0, none⟩ = some (.int .i64 ow) := HB5.out.b.cell 0
        have e1 : u5.cell? ⟨kb, 1, none⟩ = some (.string on) := HB5.out.b.cell 1
        have e2 : u5.cell? ⟨kb, 2, none⟩ = some (.int .i64 oi) := HB5.out.b.cell 2
        by_cases h3 : ow = 3
        · have h3b : (ow == 3) = true := by simp [h3]
          obtain ⟨⟨tx, ti, q2⟩, hR⟩ : ∃ R, tkQ q on = R := ⟨_, rfl⟩
          have HR := Lib.hid hR
          clear hR
          go_upto_region 20 with (go_at_call 13; (with_reducible refine (w_qtake HL5.out on HSZ.out tx ti q2 HR.out).mono ?_); rintro e u6 ⟨rfl, h1, h2⟩; have HL6 := Lib.hid h1; have HB6 := Lib.hid (HB5.out.step h2); clear h1 h2)
          clear e0 e1 e2
          have e0 : u6.cell? ⟨kb, 0, none⟩ = some (.int .i64 ow) := HB6.out.b.cell 0
          have e1 : u6.cell? ⟨kb, 1, none⟩ = some (.string on) := HB6.out.b.cell 1
          have e2 : u6.cell? ⟨kb, 2, none⟩ = some (.int .i64 oi) := HB6.out.b.cell 2
          obtain ⟨L2, hL2⟩ : ∃ L2, liQ q2 on = L2 := ⟨_, rfl⟩
          obtain ⟨m2, hm2⟩ : ∃ m2, L2.length = m2 := ⟨_, rfl⟩
          obtain ⟨N2, hN2⟩ : ∃ N2, q2.length = N2 := ⟨_, rfl⟩
          have HLA := Lib.hid (And.intro hL2 hm2)
          have HNA := Lib.hid hN2
          have hm28 : m2 ≤ 8 := by rw [← hm2, ← hL2]; exact HL6.out.ok.row on
          have hN64 : N2 ≤ 64 := by rw [← hN2]; exact HL6.out.ok.few
          have HND := Lib.hid (show L2.Nodup by rw [← hL2]; exact li_nodup HL6.out.ok.nd on)
          have hg8 : ¬ (m2 : Int) > 8 := by omega
          have hg8b : decide ((m2 : Int) > 8) = false := decide_eq_false hg8
          have hg8c : decide ((8 : Int) < (m2 : Int)) = false := decide_eq_false (by omega)
          have hg64 : ¬ (N2 : Int) > 64 := by omega
          clear hL2 hm2 hN2
          go_upto_region 21 with (go_at_call 23; (with_reducible refine (w_qlist HL6.out on HSZ.out L2 m2 HLA.out).mono ?_); rintro e ua ⟨Aa, ca, rfl, h1, h2⟩; have HRa := Lib.hid (h1.ri (K := []) (fun _ hx => by cases hx)); have HLa := Lib.hid (HL6.out.on h2); clear h1 h2)
          clear e0 e1 e2
          go_wp2_with fail
          go_loopw [14] (fun v14 wr => ∃ k : Nat, k ≤ m2 ∧ v14 = .int .i64 (k : Int) ∧ Hid (Below ua.heap.size ua wr)) (fun v14 _ => m2 - (intOf v14).toNat)
          case atStart => exact ⟨0, by omega, rfl, Lib.hid (Below.refl _ _)⟩
          case round =>
            obtain ⟨k, hk, rfl, HBa⟩ := hrel
            by_cases hk1 : k < m2
            · have hk2 : (k : Int) < (m2 : Int) := by omega
              go_wp2_with fail
              go_loopw [15] (fun v15 wr => ∃ j : Nat, j ≤ k ∧ v15 = .int .i64 (j : Int) ∧ Hid (Below ua.heap.size ua wr)) (fun v15 _ => k - (intOf v15).toNat)
              case atStart => exact ⟨0, by omega, rfl, HBa⟩
              case round =>
                obtain ⟨j, hj, rfl, HBb⟩ := hrel
                by_cases hj1 : j < k
                · have hj2 : (j : Int) < (k : Int) := by omega
                  have hj3 : (j : Int) < (m2 : Int) := by omega
                  have HRr := Lib.hid (HRa.out.below HBb.out (Nat.le_refl _))
                  obtain ⟨b5, o5, x, rfl, hx, hxl⟩ := HRr.out.at_ (i := j) (by rw [HLA.out.2]; omega)
                  obtain ⟨b6, o6, y, he, hy, hyl⟩ := HRr.out.at_ (i := k) (by rw [HLA.out.2]; omega)
                  injection he with he
                  injection he with he1 he2 he3
                  subst he1; subst he2
                  have hxy : (x == y) = false := by
                    rw [beq_eq_false_iff_ne]
                    rintro rfl
                    obtain ⟨g1, g2⟩ := List.getElem?_eq_some_iff.1 hxl
                    obtain ⟨g3, g4⟩ := List.getElem?_eq_some_iff.1 hyl
                    have := (List.getElem_inj (h₀ := g1) (h₁ := g3) HND.out).1 (by rw [g2, g4])
                    omega
                  clear hxl hyl he3
                  go_wp2_with fail
                  go_quiet (fail)
                  go_wp2_with fail
                  go_roundw
                  case rel => exact ⟨j + 1, by omega, by go_num, Lib.hid (HBb.out.trans ((below_dn _).mono HBb.out.size))⟩
                  case measure => simp [intOf]; omega
                · have hj2 : ¬ (j : Int) < (k : Int) := by omega
                  go_wp2_with fail
                  go_roundw
                  case rel => exact ⟨k + 1, by omega, by go_num, HBb⟩
                  case measure => simp [intOf]; omega
            · have hk2 : ¬ (k : Int) < (m2 : Int) := by omega
              have HLb := Lib.hid (HLa.out.on HBa.out)
              go_wp2_with (go_at_call 21; (with_reducible refine (w_qmany HLb.out N2 HNA.out).mono ?_); rintro e uc ⟨rfl, h1⟩; have HLc := Lib.hid (HLb.out.on h1); clear h1)
              go_roundw
              case rel => exact ⟨i + 1, G1, q2, by omega, by go_num, HLc⟩
              case measure => simp [intOf]; omega
        · have h3b : (ow == 3) = false := by simp [h3]
          by_cases h4 : ow = 4
          · have h4b : (ow == 4) = true := by simp [h4]
            obtain ⟨⟨is, q2⟩, hR⟩ : ∃ R, drQ q oi = R := ⟨_, rfl⟩
            have HR := Lib.hid hR
            clear hR
            go_upto_region 20 with (go_at_call 15; (with_reducible refine (w_qdrop HL5.out oi HWF.out is q2 HR.out).mono ?_); rintro e u6 ⟨rfl, h1, h2⟩; have HL6 := Lib.hid h1; have HB6 := Lib.hid (HB5.out.step h2); clear h1 h2)
            clear e0 e1 e2
            have e0 : u6.cell? ⟨kb, 0, none⟩ = some (.int .i64 ow) := HB6.out.b.cell 0
            have e1 : u6.cell? ⟨kb, 1, none⟩ = some (.string on) := HB6.out.b.cell 1
            have e2 : u6.cell? ⟨kb, 2, none⟩ = some (.int .i64 oi) := HB6.out.b.cell 2
            obtain ⟨L2, hL2⟩ : ∃ L2, liQ q2 on = L2 := ⟨_, rfl⟩
            obtain ⟨m2, hm2⟩ : ∃ m2, L2.length = m2 := ⟨_, rfl⟩
            obtain ⟨N2, hN2⟩ : ∃ N2, q2.length = N2 := ⟨_, rfl⟩
            have HLA := Lib.hid (And.intro hL2 hm2)
            have HNA := Lib.hid hN2
            have hm28 : m2 ≤ 8 := by rw [← hm2, ← hL2]; exact HL6.out.ok.row on
            have hN64 : N2 ≤ 64 := by rw [← hN2]; exact HL6.out.ok.few
            have HND := Lib.hid (show L2.Nodup by rw [← hL2]; exact li_nodup HL6.out.ok.nd on)
            have hg8 : ¬ (m2 : Int) > 8 := by omega
            have hg8b : decide ((m2 : Int) > 8) = false := decide_eq_false hg8
            have hg8c : decide ((8 : Int) < (m2 : Int)) = false := decide_eq_false (by omega)
            have hg64 : ¬ (N2 : Int) > 64 := by omega
            clear hL2 hm2 hN2
            go_upto_region 21 with (go_at_call 23; (with_reducible refine (w_qlist HL6.out on HSZ.out L2 m2 HLA.out).mono ?_); rintro e ua ⟨Aa, ca, rfl, h1, h2⟩; have HRa := Lib.hid (h1.ri (K := []) (fun _ hx => by cases hx)); have HLa := Lib.hid (HL6.out.on h2); clear h1 h2)
            clear e0 e1 e2
            go_wp2_with fail
            go_loopw [14] (fun v14 wr => ∃ k : Nat, k ≤ m2 ∧ v14 = .int .i64 (k : Int) ∧ Hid (Below ua.heap.size ua wr)) (fun v14 _ => m2 - (intOf v14).toNat)
            case atStart => exact ⟨0, by omega, rfl, Lib.hid (Below.refl _ _)⟩
            case round =>
              obtain ⟨k, hk, rfl, HBa⟩ := hrel
              by_cases hk1 : k < m2
              · have hk2 : (k : Int) < (m2 : Int) := by omega
                go_wp2_with fail
                go_loopw [15] (fun v15 wr => ∃ j : Nat, j ≤ k ∧ v15 = .int .i64 (j : Int) ∧ Hid (Below ua.heap.size ua wr)) (fun v15 _ => k - (intOf v15).toNat)
                case atStart => exact ⟨0, by omega, rfl, HBa⟩
                case round =>
                  obtain ⟨j, hj, rfl, HBb⟩ := hrel
                  by_cases hj1 : j < k
                  · have hj2 : (j : Int) < (k : Int) := by omega
                    have hj3 : (j : Int) < (m2 : Int) := by omega
                    have HRr := Lib.hid (HRa.out.below HBb.out (Nat.le_refl _))
                    obtain ⟨b5, o5, x, rfl, hx, hxl⟩ := HRr.out.at_ (i := j) (by rw [HLA.out.2]; omega)
                    obtain ⟨b6, o6, y, he, hy, hyl⟩ := HRr.out.at_ (i := k) (by rw [HLA.out.2]; omega)
                    injection he with he
                    injection he with he1 he2 he3
                    subst he1; subst he2
                    have hxy : (x == y) = false := by
                      rw [beq_eq_false_iff_ne]
                      rintro rfl
                      obtain ⟨g1, g2⟩ := List.getElem?_eq_some_iff.1 hxl
                      obtain ⟨g3, g4⟩ := List.getElem?_eq_some_iff.1 hyl
                      have := (List.getElem_inj (h₀ := g1) (h₁ := g3) HND.out).1 (by rw [g2, g4])
                      omega
                    clear hxl hyl he3
                    go_wp2_with fail
                    go_quiet (fail)
                    go_wp2_with fail
                    go_roundw
                    case rel => exact ⟨j + 1, by omega, by go_num, Lib.hid (HBb.out.trans ((below_dn _).mono HBb.out.size))⟩
                    case measure => simp [intOf]; omega
                  · have hj2 : ¬ (j : Int) < (k : Int) := by omega
                    go_wp2_with fail
                    go_roundw
                    case rel => exact ⟨k + 1, by omega, by go_num, HBb⟩
                    case measure => simp [intOf]; omega
              · have hk2 : ¬ (k : Int) < (m2 : Int) := by omega
                have HLb := Lib.hid (HLa.out.on HBa.out)
                go_wp2_with (go_at_call 21; (with_reducible refine (w_qmany HLb.out N2 HNA.out).mono ?_); rintro e uc ⟨rfl, h1⟩; have HLc := Lib.hid (HLb.out.on h1); clear h1)
                go_roundw
                case rel => exact ⟨i + 1, G1, q2, by omega, by go_num, HLc⟩
                case measure => simp [intOf]; omega
          · have h4b : (ow == 4) = false := by simp [h4]
            obtain ⟨wn, hwn⟩ : ∃ wn, whN q oi = wn := ⟨_, rfl⟩
            rcases pu_cases q on oi with ⟨hw, hp⟩ | ⟨hw, hfull, hp⟩ | ⟨hw, h8, h64, hp⟩
            · have HW := Lib.hid (And.intro hwn hw)
              have HP := Lib.hid hp
              clear hwn hw hp h3 h4
              go_upto_region 16 with (go_at_call 19; (with_reducible refine (w_qwhere HL5.out oi HWF.out wn true HW.out).mono ?_); rintro e ux ⟨rfl, hu⟩; rw [hu]; clear hu)
              go_upto_region 17 with (go_at_call 17; (with_reducible refine (w_qput HL5.out on oi HSZ.out HWF.out 4 q HP.out).mono ?_); rintro e u6 ⟨G6, rfl, h1, h2⟩; have HL6 := Lib.hid h1; have HB6 := Lib.hid (HB5.out.step h2); have HR6 := Lib.hid (HR5.out.step h2); clear h1 h2)
              clear e0 e1 e2
              have e0 : u6.cell? ⟨kb, 0, none⟩ = some (.int .i64 ow) := HB6.out.b.cell 0
              have e1 : u6.cell? ⟨kb, 1, none⟩ = some (.string on) := HB6.out.b.cell 1
              have e2 : u6.cell? ⟨kb, 2, none⟩ = some (.int .i64 oi) := HB6.out.b.cell 2
              obtain ⟨b8, hb8⟩ : ∃ b, ((m : Int) == 8) = b := ⟨_, rfl⟩
              obtain ⟨b64, hb64⟩ : ∃ b, ((M : Int) == 64) = b := ⟨_, rfl⟩
              cases b8 <;> cases b64
              all_goals
                go_upto_region 20 with (first
                  | (go_at_call 23; (with_reducible refine (w_qlist HL6.out on HSZ.out L m HLL.out).mono ?_); rintro e u7 ⟨A7, c7, rfl, h1, h2⟩; have HR7 := Lib.hid (h1.ri (K := []) (fun _ hx => by cases hx)); have HS7 := Lib.hid (HR6.out.below h2 (Nat.le_refl _)); have HL7 := Lib.hid (HL6.out.on h2); have HB7 := Lib.hid (HB6.out.on h2); clear h1 h2)
                  | (go_at_call 22; (with_reducible refine (same_b A7 A5 c7 c5 L _ _ u7 m HLL.out.2 HR7.out HS7.out (by omega)).mono ?_); rintro e u8 ⟨rfl, h1⟩; have HL8 := Lib.hid (HL7.out.on h1.b0); have HB8 := Lib.hid (HB7.out.on h1.b0); clear h1)
                  | (go_at_call 21; (with_reducible refine (w_qmany HL8.out M HMM.out).mono ?_); rintro e u9 ⟨rfl, h1⟩; have HL9 := Lib.hid (HL8.out.on h1); have HB9 := Lib.hid (HB8.out.on h1); clear h1))
                clear e0 e1 e2
                have e0 : u9.cell? ⟨kb, 0, none⟩ = some (.int .i64 ow) := HB9.out.b.cell 0
                have e1 : u9.cell? ⟨kb, 1, none⟩ = some (.string on) := HB9.out.b.cell 1
                have e2 : u9.cell? ⟨kb, 2, none⟩ = some (.int .i64 oi) := HB9.out.b.cell 2
                obtain ⟨L2, hL2⟩ : ∃ L2, liQ q on = L2 := ⟨_, rfl⟩
                obtain ⟨m2, hm2⟩ : ∃ m2, L2.length = m2 := ⟨_, rfl⟩
                obtain ⟨N2, hN2⟩ : ∃ N2, q.length = N2 := ⟨_, rfl⟩
                have HLA := Lib.hid (And.intro hL2 hm2)
                have HNA := Lib.hid hN2
                have hm28 : m2 ≤ 8 := by rw [← hm2, ← hL2]; exact HL9.out.ok.row on
                have hN64 : N2 ≤ 64 := by rw [← hN2]; exact HL9.out.ok.few
                have HND := Lib.hid (show L2.Nodup by rw [← hL2]; exact li_nodup HL9.out.ok.nd on)
                have hg8 : ¬ (m2 : Int) > 8 := by omega
                have hg8b : decide ((m2 : Int) > 8) = false := decide_eq_false hg8
                have hg8c : decide ((8 : Int) < (m2 : Int)) = false := decide_eq_false (by omega)
                have hg64 : ¬ (N2 : Int) > 64 := by omega
                clear hL2 hm2 hN2
                go_upto_region 21 with (go_at_call 23; (with_reducible refine (w_qlist HL9.out on HSZ.out L2 m2 HLA.out).mono ?_); rintro e ua ⟨Aa, ca, rfl, h1, h2⟩; have HRa := Lib.hid (h1.ri (K := []) (fun _ hx => by cases hx)); have HLa := Lib.hid (HL9.out.on h2); clear h1 h2)
                clear e0 e1 e2
                go_wp2_with fail
                go_loopw [14] (fun v14 wr => ∃ k : Nat, k ≤ m2 ∧ v14 = .int .i64 (k : Int) ∧ Hid (Below ua.heap.size ua wr)) (fun v14 _ => m2 - (intOf v14).toNat)
                case atStart => exact ⟨0, by omega, rfl, Lib.hid (Below.refl _ _)⟩
                case round =>
                  obtain ⟨k, hk, rfl, HBa⟩ := hrel
                  by_cases hk1 : k < m2
                  · have hk2 : (k : Int) < (m2 : Int) := by omega
                    go_wp2_with fail
                    go_loopw [15] (fun v15 wr => ∃ j : Nat, j ≤ k ∧ v15 = .int .i64 (j : Int) ∧ Hid (Below ua.heap.size ua wr)) (fun v15 _ => k - (intOf v15).toNat)
                    case atStart => exact ⟨0, by omega, rfl, HBa⟩
                    case round =>
                      obtain ⟨j, hj, rfl, HBb⟩ := hrel
                      by_cases hj1 : j < k
                      · have hj2 : (j : Int) < (k : Int) := by omega
                        have hj3 : (j : Int) < (m2 : Int) := by omega
                        have HRr := Lib.hid (HRa.out.below HBb.out (Nat.le_refl _))
                        obtain ⟨b5, o5, x, rfl, hx, hxl⟩ := HRr.out.at_ (i := j) (by rw [HLA.out.2]; omega)
                        obtain ⟨b6, o6, y, he, hy, hyl⟩ := HRr.out.at_ (i := k) (by rw [HLA.out.2]; omega)
                        injection he with he
                        injection he with he1 he2 he3
                        subst he1; subst he2
                        have hxy : (x == y) = false := by
                          rw [beq_eq_false_iff_ne]
                          rintro rfl
                          obtain ⟨g1, g2⟩ := List.getElem?_eq_some_iff.1 hxl
                          obtain ⟨g3, g4⟩ := List.getElem?_eq_some_iff.1 hyl
                          have := (List.getElem_inj (h₀ := g1) (h₁ := g3) HND.out).1 (by rw [g2, g4])
                          omega
                        clear hxl hyl he3
                        go_wp2_with fail
                        go_quiet (fail)
                        go_wp2_with fail
                        go_roundw
                        case rel => exact ⟨j + 1, by omega, by go_num, Lib.hid (HBb.out.trans ((below_dn _).mono HBb.out.size))⟩
                        case measure => simp [intOf]; omega
                      · have hj2 : ¬ (j : Int) < (k : Int) := by omega
                        go_wp2_with fail
                        go_roundw
                        case rel => exact ⟨k + 1, by omega, by go_num, HBb⟩
                        case measure => simp [intOf]; omega
                  · have hk2 : ¬ (k : Int) < (m2 : Int) := by omega
                    have HLb := Lib.hid (HLa.out.on HBa.out)
                    go_wp2_with (go_at_call 21; (with_reducible refine (w_qmany HLb.out N2 HNA.out).mono ?_); rintro e uc ⟨rfl, h1⟩; have HLc := Lib.hid (HLb.out.on h1); clear h1)
                    go_roundw
                    case rel => exact ⟨i + 1, G6, q, by omega, by go_num, HLc⟩
                    case measure => simp [intOf]; omega
            · have HW := Lib.hid (And.intro hwn hw)
              have HP := Lib.hid hp
              have hff : m = 8 ∨ M = 64 := by
                rw [HLL.out.1, HLL.out.2, HMM.out] at hfull
                omega
              clear hwn hw hp h3 h4 hfull
              go_upto_region 16 with (go_at_call 19; (with_reducible refine (w_qwhere HL5.out oi HWF.out wn false HW.out).mono ?_); rintro e ux ⟨rfl, hu⟩; rw [hu]; clear hu)
              go_upto_region 17 with (go_at_call 17; (with_reducible refine (w_qput HL5.out on oi HSZ.out HWF.out 2 q HP.out).mono ?_); rintro e u6 ⟨G6, rfl, h1, h2⟩; have HL6 := Lib.hid h1; have HB6 := Lib.hid (HB5.out.step h2); have HR6 := Lib.hid (HR5.out.step h2); clear h1 h2)
              clear e0 e1 e2
              have e0 : u6.cell? ⟨kb, 0, none⟩ = some (.int .i64 ow) := HB6.out.b.cell 0
              have e1 : u6.cell? ⟨kb, 1, none⟩ = some (.string on) := HB6.out.b.cell 1
              have e2 : u6.cell? ⟨kb, 2, none⟩ = some (.int .i64 oi) := HB6.out.b.cell 2
              by_cases hm8b : m = 8
              · have hb8 : ((m : Int) == 8) = true := by rw [beq_iff_eq]; omega
                clear hff hm8b
                go_upto_region 20 with (first
                  | (go_at_call 23; (with_reducible refine (w_qlist HL6.out on HSZ.out L m HLL.out).mono ?_); rintro e u7 ⟨A7, c7, rfl, h1, h2⟩; have HR7 := Lib.hid (h1.ri (K := []) (fun _ hx => by cases hx)); have HS7 := Lib.hid (HR6.out.below h2 (Nat.le_refl _)); have HL7 := Lib.hid (HL6.out.on h2); have HB7 := Lib.hid (HB6.out.on h2); clear h1 h2)
                  | (go_at_call 22; (with_reducible refine (same_b A7 A5 c7 c5 L _ _ u7 m HLL.out.2 HR7.out HS7.out (by omega)).mono ?_); rintro e u8 ⟨rfl, h1⟩; have HL8 := Lib.hid (HL7.out.on h1.b0); have HB8 := Lib.hid (HB7.out.on h1.b0); clear h1)
                  | (go_at_call 21; (with_reducible refine (w_qmany HL8.out M HMM.out).mono ?_); rintro e u9 ⟨rfl, h1⟩; have HL9 := Lib.hid (HL8.out.on h1); have HB9 := Lib.hid (HB8.out.on h1); clear h1))
                clear e0 e1 e2
                have e0 : u9.cell? ⟨kb, 0, none⟩ = some (.int .i64 ow) := HB9.out.b.cell 0
                have e1 : u9.cell? ⟨kb, 1, none⟩ = some (.string on) := HB9.out.b.cell 1
                have e2 : u9.cell? ⟨kb, 2, none⟩ = some (.int .i64 oi) := HB9.out.b.cell 2
                obtain ⟨L2, hL2⟩ : ∃ L2, liQ q on = L2 := ⟨_, rfl⟩
                obtain ⟨m2, hm2⟩ : ∃ m2, L2.length = m2 := ⟨_, rfl⟩
                obtain ⟨N2, hN2⟩ : ∃ N2, q.length = N2 := ⟨_, rfl⟩
                have HLA := Lib.hid (And.intro hL2 hm2)
                have HNA := Lib.hid hN2
                have hm28 : m2 ≤ 8 := by rw [← hm2, ← hL2]; exact HL9.out.ok.row on
                have hN64 : N2 ≤ 64 := by rw [← hN2]; exact HL9.out.ok.few
                have HND := Lib.hid (show L2.Nodup by rw [← hL2]; exact li_nodup HL9.out.ok.nd on)
                have hg8 : ¬ (m2 : Int) > 8 := by omega
                have hg8b : decide ((m2 : Int) > 8) = false := decide_eq_false hg8
                have hg8c : decide ((8 : Int) < (m2 : Int)) = false := decide_eq_false (by omega)
                have hg64 : ¬ (N2 : Int) > 64 := by omega
                clear hL2 hm2 hN2
                go_upto_region 21 with (go_at_call 23; (with_reducible refine (w_qlist HL9.out on HSZ.out L2 m2 HLA.out).mono ?_); rintro e ua ⟨Aa, ca, rfl, h1, h2⟩; have HRa := Lib.hid (h1.ri (K := []) (fun _ hx => by cases hx)); have HLa := Lib.hid (HL9.out.on h2); clear h1 h2)
                clear e0 e1 e2
                go_wp2_with fail
                go_loopw [14] (fun v14 wr => ∃ k : Nat, k ≤ m2 ∧ v14 = .int .i64 (k : Int) ∧ Hid (Below ua.heap.size ua wr)) (fun v14 _ => m2 - (intOf v14).toNat)
                case atStart => exact ⟨0, by omega, rfl, Lib.hid (Below.refl _ _)⟩
                case round =>
                  obtain ⟨k, hk, rfl, HBa⟩ := hrel
                  by_cases hk1 : k < m2
                  · have hk2 : (k : Int) < (m2 : Int) := by omega
                    go_wp2_with fail
                    go_loopw [15] (fun v15 wr => ∃ j : Nat, j ≤ k ∧ v15 = .int .i64 (j : Int) ∧ Hid (Below ua.heap.size ua wr)) (fun v15 _ => k - (intOf v15).toNat)
                    case atStart => exact ⟨0, by omega, rfl, HBa⟩
                    case round =>
                      obtain ⟨j, hj, rfl, HBb⟩ := hrel
                      by_cases hj1 : j < k
                      · have hj2 : (j : Int) < (k : Int) := by omega
                        have hj3 : (j : Int) < (m2 : Int) := by omega
                        have HRr := Lib.hid (HRa.out.below HBb.out (Nat.le_refl _))
                        obtain ⟨b5, o5, x, rfl, hx, hxl⟩ := HRr.out.at_ (i := j) (by rw [HLA.out.2]; omega)
                        obtain ⟨b6, o6, y, he, hy, hyl⟩ := HRr.out.at_ (i := k) (by rw [HLA.out.2]; omega)
                        injection he with he
                        injection he with he1 he2 he3
                        subst he1; subst he2
                        have hxy : (x == y) = false := by
                          rw [beq_eq_false_iff_ne]
                          rintro rfl
                          obtain ⟨g1, g2⟩ := List.getElem?_eq_some_iff.1 hxl
                          obtain ⟨g3, g4⟩ := List.getElem?_eq_some_iff.1 hyl
                          have := (List.getElem_inj (h₀ := g1) (h₁ := g3) HND.out).1 (by rw [g2, g4])
                          omega
                        clear hxl hyl he3
                        go_wp2_with fail
                        go_quiet (fail)
                        go_wp2_with fail
                        go_roundw
                        case rel => exact ⟨j + 1, by omega, by go_num, Lib.hid (HBb.out.trans ((below_dn _).mono HBb.out.size))⟩
                        case measure => simp [intOf]; omega
                      · have hj2 : ¬ (j : Int) < (k : Int) := by omega
                        go_wp2_with fail
                        go_roundw
                        case rel => exact ⟨k + 1, by omega, by go_num, HBb⟩
                        case measure => simp [intOf]; omega
                  · have hk2 : ¬ (k : Int) < (m2 : Int) := by omega
                    have HLb := Lib.hid (HLa.out.on HBa.out)
                    go_wp2_with (go_at_call 21; (with_reducible refine (w_qmany HLb.out N2 HNA.out).mono ?_); rintro e uc ⟨rfl, h1⟩; have HLc := Lib.hid (HLb.out.on h1); clear h1)
                    go_roundw
                    case rel => exact ⟨i + 1, G6, q, by omega, by go_num, HLc⟩
                    case measure => simp [intOf]; omega
              · have hb8 : ((m : Int) == 8) = false := by rw [beq_eq_false_iff_ne]; omega
                have hb64 : ((M : Int) == 64) = true := by rw [beq_iff_eq]; omega
                clear hff hm8b
                go_upto_region 20 with (first
                  | (go_at_call 23; (with_reducible refine (w_qlist HL6.out on HSZ.out L m HLL.out).mono ?_); rintro e u7 ⟨A7, c7, rfl, h1, h2⟩; have HR7 := Lib.hid (h1.ri (K := []) (fun _ hx => by cases hx)); have HS7 := Lib.hid (HR6.out.below h2 (Nat.le_refl _)); have HL7 := Lib.hid (HL6.out.on h2); have HB7 := Lib.hid (HB6.out.on h2); clear h1 h2)
                  | (go_at_call 22; (with_reducible refine (same_b A7 A5 c7 c5 L _ _ u7 m HLL.out.2 HR7.out HS7.out (by omega)).mono ?_); rintro e u8 ⟨rfl, h1⟩; have HL8 := Lib.hid (HL7.out.on h1.b0); have HB8 := Lib.hid (HB7.out.on h1.b0); clear h1)
                  | (go_at_call 21; (with_reducible refine (w_qmany HL8.out M HMM.out).mono ?_); rintro e u9 ⟨rfl, h1⟩; have HL9 := Lib.hid (HL8.out.on h1); have HB9 := Lib.hid (HB8.out.on h1); clear h1))
                clear e0 e1 e2
                have e0 : u9.cell? ⟨kb, 0, none⟩ = some (.int .i64 ow) := HB9.out.b.cell 0
                have e1 : u9.cell? ⟨kb, 1, none⟩ = some (.string on) := HB9.out.b.cell 1
                have e2 : u9.cell? ⟨kb, 2, none⟩ = some (.int .i64 oi) := HB9.out.b.cell 2
                obtain ⟨L2, hL2⟩ : ∃ L2, liQ q on = L2 := ⟨_, rfl⟩
                obtain ⟨m2, hm2⟩ : ∃ m2, L2.length = m2 := ⟨_, rfl⟩
                obtain ⟨N2, hN2⟩ : ∃ N2, q.length = N2 := ⟨_, rfl⟩
                have HLA := Lib.hid (And.intro hL2 hm2)
                have HNA := Lib.hid hN2
                have hm28 : m2 ≤ 8 := by rw [← hm2, ← hL2]; exact HL9.out.ok.row on
                have hN64 : N2 ≤ 64 := by rw [← hN2]; exact HL9.out.ok.few
                have HND := Lib.hid (show L2.Nodup by rw [← hL2]; exact li_nodup HL9.out.ok.nd on)
                have hg8 : ¬ (m2 : Int) > 8 := by omega
                have hg8b : decide ((m2 : Int) > 8) = false := decide_eq_false hg8
                have hg8c : decide ((8 : Int) < (m2 : Int)) = false := decide_eq_false (by omega)
                have hg64 : ¬ (N2 : Int) > 64 := by omega
                clear hL2 hm2 hN2
                go_upto_region 21 with (go_at_call 23; (with_reducible refine (w_qlist HL9.out on HSZ.out L2 m2 HLA.out).mono ?_); rintro e ua ⟨Aa, ca, rfl, h1, h2⟩; have HRa := Lib.hid (h1.ri (K := []) (fun _ hx => by cases hx)); have HLa := Lib.hid (HL9.out.on h2); clear h1 h2)
                clear e0 e1 e2
                go_wp2_with fail
                go_loopw [14] (fun v14 wr => ∃ k : Nat, k ≤ m2 ∧ v14 = .int .i64 (k : Int) ∧ Hid (Below ua.heap.size ua wr)) (fun v14 _ => m2 - (intOf v14).toNat)
                case atStart => exact ⟨0, by omega, rfl, Lib.hid (Below.refl _ _)⟩
                case round =>
                  obtain ⟨k, hk, rfl, HBa⟩ := hrel
                  by_cases hk1 : k < m2
                  · have hk2 : (k : Int) < (m2 : Int) := by omega
                    go_wp2_with fail
                    go_loopw [15] (fun v15 wr => ∃ j : Nat, j ≤ k ∧ v15 = .int .i64 (j : Int) ∧ Hid (Below ua.heap.size ua wr)) (fun v15 _ => k - (intOf v15).toNat)
                    case atStart => exact ⟨0, by omega, rfl, HBa⟩
                    case round =>
                      obtain ⟨j, hj, rfl, HBb⟩ := hrel
                      by_cases hj1 : j < k
                      · have hj2 : (j : Int) < (k : Int) := by omega
                        have hj3 : (j : Int) < (m2 : Int) := by omega
                        have HRr := Lib.hid (HRa.out.below HBb.out (Nat.le_refl _))
                        obtain ⟨b5, o5, x, rfl, hx, hxl⟩ := HRr.out.at_ (i := j) (by rw [HLA.out.2]; omega)
                        obtain ⟨b6, o6, y, he, hy, hyl⟩ := HRr.out.at_ (i := k) (by rw [HLA.out.2]; omega)
                        injection he with he
                        injection he with he1 he2 he3
                        subst he1; subst he2
                        have hxy : (x == y) = false := by
                          rw [beq_eq_false_iff_ne]
                          rintro rfl
                          obtain ⟨g1, g2⟩ := List.getElem?_eq_some_iff.1 hxl
                          obtain ⟨g3, g4⟩ := List.getElem?_eq_some_iff.1 hyl
                          have := (List.getElem_inj (h₀ := g1) (h₁ := g3) HND.out).1 (by rw [g2, g4])
                          omega
                        clear hxl hyl he3
                        go_wp2_with fail
                        go_quiet (fail)
                        go_wp2_with fail
                        go_roundw
                        case rel => exact ⟨j + 1, by omega, by go_num, Lib.hid (HBb.out.trans ((below_dn _).mono HBb.out.size))⟩
                        case measure => simp [intOf]; omega
                      · have hj2 : ¬ (j : Int) < (k : Int) := by omega
                        go_wp2_with fail
                        go_roundw
                        case rel => exact ⟨k + 1, by omega, by go_num, HBb⟩
                        case measure => simp [intOf]; omega
                  · have hk2 : ¬ (k : Int) < (m2 : Int) := by omega
                    have HLb := Lib.hid (HLa.out.on HBa.out)
                    go_wp2_with (go_at_call 21; (with_reducible refine (w_qmany HLb.out N2 HNA.out).mono ?_); rintro e uc ⟨rfl, h1⟩; have HLc := Lib.hid (HLb.out.on h1); clear h1)
                    go_roundw
                    case rel => exact ⟨i + 1, G6, q, by omega, by go_num, HLc⟩
                    case measure => simp [intOf]; omega
            · have HW := Lib.hid (And.intro hwn hw)
              have HP := Lib.hid hp
              have hb8 : ((m : Int) == 8) = false := by
                rw [HLL.out.1, HLL.out.2] at h8
                rw [beq_eq_false_iff_ne]; omega
              have hb64 : ((M : Int) == 64) = false := by
                rw [HMM.out] at h64
                rw [beq_eq_false_iff_ne]; omega
              obtain ⟨q2, hq2⟩ : ∃ q2, q ++ [⟨on, oi⟩] = q2 := ⟨_, rfl⟩
              rw [hq2] at HP
              obtain ⟨M2, hM2⟩ : ∃ M2, q2.length = M2 := ⟨_, rfl⟩
              have HM2 := Lib.hid hM2
              have hbM : ((M2 : Int) != (M : Int)) = true := by
                have : M2 = M + 1 := by rw [← hM2, ← hq2, List.length_append, HMM.out]; rfl
                rw [bne_iff_ne]; omega
              clear hwn hw hp h3 h4 h8 h64 hq2 hM2
              go_upto_region 16 with (go_at_call 19; (with_reducible refine (w_qwhere HL5.out oi HWF.out wn false HW.out).mono ?_); rintro e ux ⟨rfl, hu⟩; rw [hu]; clear hu)
              go_upto_region 17 with (go_at_call 17; (with_reducible refine (w_qput HL5.out on oi HSZ.out HWF.out 0 q2 HP.out).mono ?_); rintro e u6 ⟨G6, rfl, h1, h2⟩; have HL6 := Lib.hid h1; have HB6 := Lib.hid (HB5.out.step h2); have HR6 := Lib.hid (HR5.out.step h2); clear h1 h2)
              clear e0 e1 e2
              have e0 : u6.cell? ⟨kb, 0, none⟩ = some (.int .i64 ow) := HB6.out.b.cell 0
              have e1 : u6.cell? ⟨kb, 1, none⟩ = some (.string on) := HB6.out.b.cell 1
              have e2 : u6.cell? ⟨kb, 2, none⟩ = some (.int .i64 oi) := HB6.out.b.cell 2
              go_upto_region 20 with (go_at_call 21; (with_reducible refine (w_qmany HL6.out M2 HM2.out).mono ?_); rintro e u9 ⟨rfl, h1⟩; have HL9 := Lib.hid (HL6.out.on h1); have HB9 := Lib.hid (HB6.out.on h1); clear h1)
              clear e0 e1 e2
              have e0 : u9.cell? ⟨kb, 0, none⟩ = some (.int .i64 ow) := HB9.out.b.cell 0
              have e1 : u9.cell? ⟨kb, 1, none⟩ = some (.string on) := HB9.out.b.cell 1
              have e2 : u9.cell? ⟨kb, 2, none⟩ = some (.int .i64 oi) := HB9.out.b.cell 2
              obtain ⟨L2, hL2⟩ : ∃ L2, liQ q2 on = L2 := ⟨_, rfl⟩
              obtain ⟨m2, hm2⟩ : ∃ m2, L2.length = m2 := ⟨_, rfl⟩
              obtain ⟨N2, hN2⟩ : ∃ N2, q2.length = N2 := ⟨_, rfl⟩
              have HLA := Lib.hid (And.intro hL2 hm2)
              have HNA := Lib.hid hN2
              have hm28 : m2 ≤ 8 := by rw [← hm2, ← hL2]; exact HL9.out.ok.row on
              have hN64 : N2 ≤ 64 := by rw [← hN2]; exact HL9.out.ok.few
              have HND := Lib.hid (show L2.Nodup by rw [← hL2]; exact li_nodup HL9.out.ok.nd on)
              have hg8 : ¬ (m2 : Int) > 8 := by omega
              have hg8b : decide ((m2 : Int) > 8) = false := decide_eq_false hg8
              have hg8c : decide ((8 : Int) < (m2 : Int)) = false := decide_eq_false (by omega)
              have hg64 : ¬ (N2 : Int) > 64 := by omega
              clear hL2 hm2 hN2
              go_upto_region 21 with (go_at_call 23; (with_reducible refine (w_qlist HL9.out on HSZ.out L2 m2 HLA.out).mono ?_); rintro e ua ⟨Aa, ca, rfl, h1, h2⟩; have HRa := Lib.hid (h1.ri (K := []) (fun _ hx => by cases hx)); have HLa := Lib.hid (HL9.out.on h2); clear h1 h2)
              clear e0 e1 e2
              go_wp2_with fail
              go_loopw [14] (fun v14 wr => ∃ k : Nat, k ≤ m2 ∧ v14 = .int .i64 (k : Int) ∧ Hid (Below ua.heap.size ua wr)) (fun v14 _ => m2 - (intOf v14).toNat)
              case atStart => exact ⟨0, by omega, rfl, Lib.hid (Below.refl _ _)⟩
              case round =>
                obtain ⟨k, hk, rfl, HBa⟩ := hrel
                by_cases hk1 : k < m2
                · have hk2 : (k : Int) < (m2 : Int) := by omega
                  go_wp2_with fail
                  go_loopw [15] (fun v15 wr => ∃ j : Nat, j ≤ k ∧ v15 = .int .i64 (j : Int) ∧ Hid (Below ua.heap.size ua wr)) (fun v15 _ => k - (intOf v15).toNat)
                  case atStart => exact ⟨0, by omega, rfl, HBa⟩
                  case round =>
                    obtain ⟨j, hj, rfl, HBb⟩ := hrel
                    by_cases hj1 : j < k
                    · have hj2 : (j : Int) < (k : Int) := by omega
                      have hj3 : (j : Int) < (m2 : Int) := by omega
                      have HRr := Lib.hid (HRa.out.below HBb.out (Nat.le_refl _))
                      obtain ⟨b5, o5, x, rfl, hx, hxl⟩ := HRr.out.at_ (i := j) (by rw [HLA.out.2]; omega)
                      obtain ⟨b6, o6, y, he, hy, hyl⟩ := HRr.out.at_ (i := k) (by rw [HLA.out.2]; omega)
                      injection he with he
                      injection he with he1 he2 he3
                      subst he1; subst he2
                      have hxy : (x == y) = false := by
                        rw [beq_eq_false_iff_ne]
                        rintro rfl
                        obtain ⟨g1, g2⟩ := List.getElem?_eq_some_iff.1 hxl
                        obtain ⟨g3, g4⟩ := List.getElem?_eq_some_iff.1 hyl
                        have := (List.getElem_inj (h₀ := g1) (h₁ := g3) HND.out).1 (by rw [g2, g4])
                        omega
                      clear hxl hyl he3
                      go_wp2_with fail
                      go_quiet (fail)
                      go_wp2_with fail
                      go_roundw
                      case rel => exact ⟨j + 1, by omega, by go_num, Lib.hid (HBb.out.trans ((below_dn _).mono HBb.out.size))⟩
                      case measure => simp [intOf]; omega
                    · have hj2 : ¬ (j : Int) < (k : Int) := by omega
                      go_wp2_with fail
                      go_roundw
                      case rel => exact ⟨k + 1, by omega, by go_num, HBb⟩
                      case measure => simp [intOf]; omega
                · have hk2 : ¬ (k : Int) < (m2 : Int) := by omega
                  have HLb := Lib.hid (HLa.out.on HBa.out)
                  go_wp2_with (go_at_call 21; (with_reducible refine (w_qmany HLb.out N2 HNA.out).mono ?_); rintro e uc ⟨rfl, h1⟩; have HLc := Lib.hid (HLb.out.on h1); clear h1)
                  go_roundw
                  case rel => exact ⟨i + 1, G6, q2, by omega, by go_num, HLc⟩
                  case measure => simp [intOf]; omega
      · have hi2 : ¬ (i : Int) < (n : Int) := by omega
        go_wp2_with fail
        go_ret
        exact ⟨rfl, HL.out.l⟩
end Go.Proofs.Ytikkiifcnjiegaa
