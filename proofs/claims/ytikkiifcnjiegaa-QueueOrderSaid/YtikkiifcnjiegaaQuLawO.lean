/- QueueOrder: of a name they go in the order in which they came, each once: the walk. (Written by gen_quor.py.) -/
import Derived.Test.YtikkiifcnjiegaaQuX
namespace Go.Proofs.Ytikkiifcnjiegaa
set_option linter.unusedVariables false
set_option maxRecDepth 100000
set_option linter.unusedSimpArgs false
open Go.RowKit

theorem tk_same {q : List Qn} {s : ByteArray} (h : liQ q s = []) : (tkQ q s).2.2 = q := by rw [tk_no h]

set_option maxRecDepth 100000 in
set_option maxHeartbeats 16000000 in
theorem walk_QueueOrder (A : Option Addr) (l : List Qo) (c : Nat) (s : ByteArray) (W : World) (h : InQo W A l c) (hs : s.size ≤ 140737488355328) :
    Calls Try.prog 4 #[.slice A l.length c, .string s] W fun e w' => e = .returned (.bool true) ∧ Below W.heap.size W w' := by
  have HI := Lib.hid h
  have HHD := Lib.hid (fun u => qhead_ok u)
  have HNEW := Lib.hid (fun u (hb : Below W.heap.size W u) => w_qnew (W := W) (u := u) hb)
  have HGR := Lib.hid (fun u (hb : Below W.heap.size W u) => qgreat_ok A l c u (h.on hb))
  obtain ⟨gr, hgr⟩ : ∃ gr, grQ l = gr := ⟨_, rfl⟩
  have HGB := Lib.hid hgr
  simp only [hgr] at HGR
  obtain ⟨n, hn⟩ : ∃ n, l.length = n := ⟨_, rfl⟩
  have HN := Lib.hid hn
  rw [hn] at HGR ⊢
  clear h hgr hn
  have HS := Lib.hid hs
  clear hs
  cases gr with
  | true =>
    go_enter Try.func4, Try.ntmps4
    go_wp2_with (first | (go_at_call 9; (with_reducible refine (HHD.out _).mono ?_); rintro e u1 ⟨rfl, hb⟩; have HB1 := Lib.hid hb; clear hb) | (go_at_call 10; (with_reducible refine (HNEW.out _ HB1.out).mono ?_); rintro e u2 ⟨G, qb, rfl, h1, -, -⟩; have HL2 := Lib.hid h1; clear h1) | (go_at_call 12; (with_reducible refine (HGR.out _ HL2.out.l).mono ?_); rintro e u3 ⟨rfl, hb⟩; have HL3 := Lib.hid (HL2.out.on hb); clear hb))
    go_ret
    exact ⟨rfl, HL3.out.l⟩
  | false =>
    have hfew : n ≤ 400 := by rw [← HN.out]; exact grQ_few HGB.out
    go_enter Try.func4, Try.ntmps4
    go_wp2_with (first | (go_at_call 9; (with_reducible refine (HHD.out _).mono ?_); rintro e u1 ⟨rfl, hb⟩; have HB1 := Lib.hid hb; clear hb) | (go_at_call 10; (with_reducible refine (HNEW.out _ HB1.out).mono ?_); rintro e u2 ⟨G, qb, rfl, h1, -, -⟩; have HL2 := Lib.hid h1; clear h1) | (go_at_call 12; (with_reducible refine (HGR.out _ HL2.out.l).mono ?_); rintro e u3 ⟨rfl, hb⟩; have HL3 := Lib.hid (HL2.out.on hb); clear hb))
    go_loopw [7, 8] (fun v7 v8 wr => ∃ (i m : Nat) (G : List Nat) (q : List Qn) (A5 : Option Addr) (c5 : Nat), i ≤ n ∧ v7 = .slice A5 m c5 ∧ v8 = .int .i64 (i : Int) ∧ Hid (Wq W wr G qb q) ∧ Hid ((liQ q s).length = m) ∧ Hid (Lx W wr G A5 c5 (liQ q s))) (fun v7 v8 _ => n - (intOf v8).toNat)
    case atStart => exact ⟨0, 0, G, [], none, 0, by omega, rfl, rfl, HL3, Lib.hid rfl, Lib.hid (Lx.nil _ _ _)⟩
    case round =>
      obtain ⟨i, m, G1, q, A5, c5, hi, rfl, rfl, HL, HM, HX⟩ := hrel
      have hm8 : m ≤ 8 := by rw [← HM.out]; exact HL.out.ok.row s
      by_cases hi1 : i < n
      · have hi2 : (i : Int) < (n : Int) := by omega
        obtain ⟨bx, o, ox, rfl, hx, hsm, hc⟩ := HI.out.at3 i (by rw [HN.out]; exact hi1)
        have HC := Lib.hid hc
        obtain ⟨ow, on, oi⟩ := ox
        have HSZ := Lib.hid (show on.size ≤ 140737488355328 from hsm.1)
        have HWF := Lib.hid (show WfI oi from hsm.2)
        clear hx hsm hc
        dsimp only at HC
        obtain ⟨d0, d1, d2⟩ := HC.out wr (HL.out.l)
        go_upto_region 10 with fail
        have HXv0 := Lib.hid (HX.out.on ((Below.refl _ _).alloc (Nat.le_refl _) (.cells #[.int .i64 ow, .string on, .int .i64 oi] 30)))
        obtain ⟨kb, hkb⟩ : ∃ kb, wr.heap.size = kb := ⟨_, rfl⟩
        obtain ⟨v, hv⟩ : ∃ v, wr.alloc (.cells #[.int .i64 ow, .string on, .int .i64 oi] 30) = v := ⟨_, rfl⟩
        have HB := Lib.hid (show Bz v G1 kb 30 #[.int .i64 ow, .string on, .int .i64 oi] by rw [← hv, ← hkb]; exact Bz.new HL.out.hi _ _)
        have HLv := Lib.hid (show Wq W v G1 qb q by rw [← hv]; exact HL.out.on ((Below.refl _ _).alloc (Nat.le_refl _) _))
        have HXv := Lib.hid (show Lx W v G1 A5 c5 (liQ q s) by rw [← hv]; exact HXv0.out)
        try dsimp only
        rw [hv]
        try rw [hkb]
        clear hv hkb d0 d1 d2
        have e0 : v.cell? ⟨kb, 0, none⟩ = some (.int .i64 ow) := HB.out.b.cell 0
        have e1 : v.cell? ⟨kb, 1, none⟩ = some (.string on) := HB.out.b.cell 1
        have e2 : v.cell? ⟨kb, 2, none⟩ = some (.int .i64 oi) := HB.out.b.cell 2
        obtain ⟨en, hen⟩ : ∃ en, (on.toList == s.toList) = en := ⟨_, rfl⟩
        have HEN := Lib.hid (show nmQ on s = en from hen)
        by_cases h3 : ow = 3
        · have h3b : (ow == 3) = true := by simp [h3]
          cases hl : liQ q on with
          | nil =>
            have HT := Lib.hid (tk_no hl)
            have hm0 : en = true → (m : Int) = 0 := fun e => by
              subst e
              have := HM.out
              rw [← (nmQ_iff _ _).1 HEN.out, hl] at this
              simp at this
              omega
            clear hl
            go_upto_region 12 with (go_at_call 13; (with_reducible refine (w_qtake HLv.out on HSZ.out 0 false q HT.out).mono ?_); rintro e u6 ⟨rfl, h1, h2⟩; have HL6 := Lib.hid h1; have HB6 := Lib.hid (HB.out.step h2); have HX6 := Lib.hid (HXv.out.step h2); clear h1 h2)
            clear e0 e1 e2
            have e0 : u6.cell? ⟨kb, 0, none⟩ = some (.int .i64 ow) := HB6.out.b.cell 0
            have e1 : u6.cell? ⟨kb, 1, none⟩ = some (.string on) := HB6.out.b.cell 1
            have e2 : u6.cell? ⟨kb, 2, none⟩ = some (.int .i64 oi) := HB6.out.b.cell 2
            cases en with
            | true =>
              obtain rfl : m = 0 := by have := hm0 rfl; omega
              clear hm0
              go_wp2_with fail
              go_roundw
              case rel => exact ⟨i + 1, 0, G1, q, A5, c5, by omega, by first | rfl | go_num, by go_num, HL6, Lib.hid (HM.out), Lib.hid (HX6.out)⟩
              case measure => simp [intOf]; omega
            | false =>
              clear hm0
              go_wp2_with fail
              go_roundw
              case rel => exact ⟨i + 1, m, G1, q, A5, c5, by omega, by first | rfl | go_num, by go_num, HL6, Lib.hid (HM.out), Lib.hid (HX6.out)⟩
              case measure => simp [intOf]; omega
          | cons a r =>
            have HT := Lib.hid (tk_first hl)
            cases en with
            | true =>
              obtain rfl : on = s := (nmQ_iff _ _).1 HEN.out
              have HLR := Lib.hid hl
              have hm1 : 0 < m := by rw [← HM.out, hl]; exact Nat.zero_lt_succ _
              have hm2 : (0 : Int) < (m : Int) := by omega
              have hm3 : (m : Int) > 0 := hm2
              clear hl
              go_upto_region 12 with (go_at_call 13; (with_reducible refine (w_qtake HLv.out on HSZ.out a true (outQ q a) HT.out).mono ?_); rintro e u6 ⟨rfl, h1, h2⟩; have HL6 := Lib.hid h1; have HB6 := Lib.hid (HB.out.step h2); have HX6 := Lib.hid (HXv.out.step h2); clear h1 h2)
              clear e0 e1 e2
              have e0 : u6.cell? ⟨kb, 0, none⟩ = some (.int .i64 ow) := HB6.out.b.cell 0
              have e1 : u6.cell? ⟨kb, 1, none⟩ = some (.string on) := HB6.out.b.cell 1
              have e2 : u6.cell? ⟨kb, 2, none⟩ = some (.int .i64 oi) := HB6.out.b.cell 2
              obtain ⟨g5, o5, x, rfl, hx, hxl⟩ := HX6.out.ri.at_ (i := 0) (by rw [HM.out]; exact hm1)
              have hxa : x = a := by
                rw [HLR.out] at hxl
                simp at hxl
                exact hxl.symm
              subst hxa
              have hne : (x != x) = false := by simp
              rw [Nat.add_zero] at hx
              have HQ := Lib.hid (show liQ (outQ q x) on = r from li_tail HL.out.ok.nd HLR.out)
              have hcap := HX6.out.cap.1
              rw [HM.out] at hcap
              have HRI := Lib.hid (show Ri u6 G1 (tailA (some ⟨g5, o5, none⟩) c5 1) r by
                have := HX6.out.ri.tail (c := c5) 1 (by rw [HM.out]; exact hcap)
                rw [HLR.out] at this
                exact this)
              have HNL := Lib.hid (show tailA (some ⟨g5, o5, none⟩) c5 1 = none → m - 1 = 0 ∧ c5 - 1 = 0 from fun e => by
                have := tailA_none _ _ _ e
                cases this)
              clear hxl
              go_upto_region 15 with fail
              have hsl := islice_from (some ⟨g5, o5, none⟩) m c5 1 (by omega) hcap (u6.alloc (.cells #[] 3))
              have HR5 := Lib.hid (show r.length = m - 1 by have := HM.out; rw [HLR.out] at this; simp at this; omega)
              generalize tailA (some ⟨g5, o5, none⟩) c5 1 = T5 at hsl HRI HNL
              obtain ⟨m2, hm2b⟩ : ∃ m2, m - 1 = m2 := ⟨_, rfl⟩
              obtain ⟨c2, hc2b⟩ : ∃ c2, c5 - 1 = c2 := ⟨_, rfl⟩
              rw [hm2b, hc2b] at hsl HNL
              rw [hm2b] at HR5
              rw [Int.natCast_one] at hsl
              have hm28 : m2 ≤ 8 := by omega
              have HEM := Lib.hid (OI.empty u6)
              have HRI2 := Lib.hid (HRI.out.below ((Below.refl u6.heap.size u6).alloc (Nat.le_refl _) (.cells #[] 3)) (Nat.le_refl _))
              have HSZ6 := Lib.hid (show u6.heap.size ≤ (u6.alloc (.cells #[] 3)).heap.size by simp)
              clear hm2b hc2b hcap
              go_wp2_with ((with_reducible refine wp_appi (by kernel_rfl) (.tmp 82) (.tmp 84) rfl u6.heap.size [] (some ⟨u6.heap.size, 0, none⟩) 0 0 rfl rfl HEM.out r T5 m2 c2 rfl HR5.out HNL.out _ HRI2.out (by omega) HSZ6.out m2 (by omega) ?_); intro A9 c9 w9 k1 k2; have HX9 := Lib.hid (show Lx W w9 G1 A9 c9 r from Lx.of k1 HL6.out.l.size HL6.out.hi); have HL9 := Lib.hid (HL6.out.on (((Below.refl u6.heap.size u6).alloc (Nat.le_refl _) (.cells #[] 3)).trans k2)); clear k1 k2)
              go_roundw
              case rel => exact ⟨i + 1, m2, G1, outQ q x, A9, c9, by omega, by first | rfl | go_num, by go_num, HL9, Lib.hid (by rw [HQ.out]; exact HR5.out), Lib.hid (by rw [HQ.out]; exact HX9.out)⟩
              case measure => simp [intOf]; omega
            | false =>
              have hne : on ≠ s := fun e => by rw [e, nmQ_same] at HEN; exact absurd HEN.out (by decide)
              have HQ := Lib.hid (show liQ (outQ q a) s = liQ q s from li_far HL.out.ok.nd (s := on) (by rw [hl]; exact List.mem_cons_self ..) hne)
              clear hl hne
              go_upto_region 12 with (go_at_call 13; (with_reducible refine (w_qtake HLv.out on HSZ.out a true (outQ q a) HT.out).mono ?_); rintro e u6 ⟨rfl, h1, h2⟩; have HL6 := Lib.hid h1; have HB6 := Lib.hid (HB.out.step h2); have HX6 := Lib.hid (HXv.out.step h2); clear h1 h2)
              clear e0 e1 e2
              have e0 : u6.cell? ⟨kb, 0, none⟩ = some (.int .i64 ow) := HB6.out.b.cell 0
              have e1 : u6.cell? ⟨kb, 1, none⟩ = some (.string on) := HB6.out.b.cell 1
              have e2 : u6.cell? ⟨kb, 2, none⟩ = some (.int .i64 oi) := HB6.out.b.cell 2
              go_wp2_with fail
              go_roundw
              case rel => exact ⟨i + 1, m, G1, (outQ q a), A5, c5, by omega, by first | rfl | go_num, by go_num, HL6, Lib.hid (by rw [HQ.out]; exact HM.out), Lib.hid (by rw [HQ.out]; exact HX6.out)⟩
              case measure => simp [intOf]; omega
        · have h3b : (ow == 3) = false := by simp [h3]
          by_cases h4 : ow = 4
          · have h4b : (ow == 4) = true := by simp [h4]
            cases hw : whQ q oi with
            | none =>
              have HW := Lib.hid (show whN q oi = ⟨#[]⟩ ∧ (whQ q oi).isSome = false by unfold whN; rw [hw]; exact ⟨rfl, rfl⟩)
              have HT := Lib.hid (show drQ q oi = (false, q) by unfold drQ; rw [hw, out_same hw]; rfl)
              clear hw
              go_upto_region 18 with (go_at_call 19; (with_reducible refine (w_qwhere HLv.out oi HWF.out ⟨#[]⟩ false HW.out).mono ?_); rintro e ux ⟨rfl, hu⟩; rw [hu]; clear hu)
              go_upto_region 19 with (go_at_call 15; (with_reducible refine (w_qdrop HLv.out oi HWF.out false q HT.out).mono ?_); rintro e u6 ⟨rfl, h1, h2⟩; have HL6 := Lib.hid h1; have HB6 := Lib.hid (HB.out.step h2); have HX6 := Lib.hid (HXv.out.step h2); clear h1 h2)
              clear e0 e1 e2
              have e0 : u6.cell? ⟨kb, 0, none⟩ = some (.int .i64 ow) := HB6.out.b.cell 0
              have e1 : u6.cell? ⟨kb, 1, none⟩ = some (.string on) := HB6.out.b.cell 1
              have e2 : u6.cell? ⟨kb, 2, none⟩ = some (.int .i64 oi) := HB6.out.b.cell 2
              go_wp2_with fail
              go_roundw
              case rel => exact ⟨i + 1, m, G1, q, A5, c5, by omega, by first | rfl | go_num, by go_num, HL6, Lib.hid (HM.out), Lib.hid (HX6.out)⟩
              case measure => simp [intOf]; omega
            | some x =>
              obtain ⟨hx, hxi⟩ := wh_some hw
              have HW := Lib.hid (show whN q oi = x.nm ∧ (whQ q oi).isSome = true by unfold whN; rw [hw]; exact ⟨rfl, rfl⟩)
              have HT := Lib.hid (show drQ q oi = (true, outQ q oi) by unfold drQ; rw [hw]; rfl)
              have HFAR := Lib.hid (show x.nm ≠ s → liQ (outQ q oi) s = liQ q s from fun hne => dr_far HL.out.ok fun y hy => by rw [hw] at hy; injection hy with hy; rw [← hy]; exact hne)
              obtain ⟨xn, hxn⟩ : ∃ xn, x.nm = xn := ⟨_, rfl⟩
              rw [hxn] at HW HFAR
              clear hw hx hxi hxn
              obtain ⟨ew, hew⟩ : ∃ ew, (xn.toList == s.toList) = ew := ⟨_, rfl⟩
              have HEW := Lib.hid (show nmQ xn s = ew from hew)
              go_upto_region 18 with (go_at_call 19; (with_reducible refine (w_qwhere HLv.out oi HWF.out xn true HW.out).mono ?_); rintro e ux ⟨rfl, hu⟩; rw [hu]; clear hu)
              go_upto_region 19 with (go_at_call 15; (with_reducible refine (w_qdrop HLv.out oi HWF.out true (outQ q oi) HT.out).mono ?_); rintro e u6 ⟨rfl, h1, h2⟩; have HL6 := Lib.hid h1; have HB6 := Lib.hid (HB.out.step h2); have HX6 := Lib.hid (HXv.out.step h2); clear h1 h2)
              clear e0 e1 e2
              have e0 : u6.cell? ⟨kb, 0, none⟩ = some (.int .i64 ow) := HB6.out.b.cell 0
              have e1 : u6.cell? ⟨kb, 1, none⟩ = some (.string on) := HB6.out.b.cell 1
              have e2 : u6.cell? ⟨kb, 2, none⟩ = some (.int .i64 oi) := HB6.out.b.cell 2
              cases ew with
              | true =>
                go_wp2_with (go_at_call 25; (with_reducible refine (qwithout_ok A5 c5 (liQ q s) G1 u6 m oi HM.out HX6.out.ri (by omega)).mono ?_); rintro e u7 ⟨A9, c9, m9, rfl, h1, h2, h3⟩; rw [← li_out] at h1 h2; have HM9 := Lib.hid h1; have HX9 := Lib.hid (show Lx W u7 G1 A9 c9 (liQ (outQ q oi) s) from Lx.of h2 HL6.out.l.size HL6.out.hi); have HL9 := Lib.hid (HL6.out.on h3); clear h1 h2 h3)
                go_roundw
                case rel => exact ⟨i + 1, m9, G1, outQ q oi, A9, c9, by omega, by first | rfl | go_num, by go_num, HL9, HM9, HX9⟩
                case measure => simp [intOf]; omega
              | false =>
                have HQ := Lib.hid (HFAR.out (fun e => by rw [e, nmQ_same] at HEW; exact absurd HEW.out (by decide)))
                go_wp2_with fail
                go_roundw
                case rel => exact ⟨i + 1, m, G1, (outQ q oi), A5, c5, by omega, by first | rfl | go_num, by go_num, HL6, Lib.hid (by rw [HQ.out]; exact HM.out), Lib.hid (by rw [HQ.out]; exact HX6.out)⟩
                case measure => simp [intOf]; omega
          · have h4b : (ow == 4) = false := by simp [h4]
            rcases pu_cases q on oi with ⟨hw, hp⟩ | ⟨hw, hfull, hp⟩ | ⟨hw, h8, h64, hp⟩
            · have HT := Lib.hid hp
              clear hw hp
              go_wp2_with (go_at_call 17; (with_reducible refine (w_qput HLv.out on oi HSZ.out HWF.out 4 q HT.out).mono ?_); rintro e u6 ⟨G6, rfl, h1, h2⟩; have HL6 := Lib.hid h1; have HX6 := Lib.hid (HXv.out.step h2); clear h1 h2)
              go_roundw
              case rel => exact ⟨i + 1, m, G6, q, A5, c5, by omega, by first | rfl | go_num, by go_num, HL6, HM, HX6⟩
              case measure => simp [intOf]; omega
            · have HT := Lib.hid hp
              clear hw hp
              go_wp2_with (go_at_call 17; (with_reducible refine (w_qput HLv.out on oi HSZ.out HWF.out 2 q HT.out).mono ?_); rintro e u6 ⟨G6, rfl, h1, h2⟩; have HL6 := Lib.hid h1; have HX6 := Lib.hid (HXv.out.step h2); clear h1 h2)
              go_roundw
              case rel => exact ⟨i + 1, m, G6, q, A5, c5, by omega, by first | rfl | go_num, by go_num, HL6, HM, HX6⟩
              case measure => simp [intOf]; omega
            · have HT := Lib.hid hp
              clear hw h8 h64
              have HLA := Lib.hid (li_app q on s oi)
              cases en with
              | true =>
                go_upto_region 24 with (go_at_call 17; (with_reducible refine (w_qput HLv.out on oi HSZ.out HWF.out 0 (q ++ [⟨on, oi⟩]) HT.out).mono ?_); rintro e u6 ⟨G6, rfl, h1, h2⟩; have HL6 := Lib.hid h1; have HB6 := Lib.hid (HB.out.step h2); have HX6 := Lib.hid (HXv.out.step h2); clear h1 h2; have f1 : u6.cell? ⟨kb, 1, none⟩ = some (.string on) := HB6.out.b.cell 1; have f2 : u6.cell? ⟨kb, 2, none⟩ = some (.int .i64 oi) := HB6.out.b.cell 2)
                have HQ := Lib.hid (show liQ (q ++ [⟨on, oi⟩]) s = liQ q s ++ [oi] by rw [HLA.out, HEN.out]; rfl)
                have HO3 := Lib.hid (((HX6.out.o.weak (Nat.zero_le _)).keep (w' := u6.alloc (.cells #[.int .i64 oi] 3)) fun g cs _ hh => hh.alloc _))
                have HC3 := Lib.hid (show (u6.alloc (.cells #[.int .i64 oi] 3)).cell? ⟨u6.heap.size, 0, none⟩ = some (.int .i64 oi) from (Bk.new u6 3 #[.int .i64 oi]).cell 0)
                go_wp2_with (at_builtin; refine wp_int_at rfl (.tmp 126) (.tmp 129) rfl (liQ q s) A5 m c5 rfl HM.out HO3.out oi u6.heap.size 1 rfl HC3.out (by omega) (m + 1) rfl ?_; intro g9 c9 w9 HA; have HY := Lib.hid (HX6.out.app HL6.out (by rw [HM.out]; exact HA.out)))
                go_roundw
                case rel => exact ⟨i + 1, m + 1, G6, q ++ [⟨on, oi⟩], some ⟨g9, 0, none⟩, c9, by omega, by first | rfl | go_num, by go_num, Lib.hid HY.out.2, Lib.hid (by rw [HQ.out, List.length_append, HM.out]; rfl), Lib.hid (by rw [HQ.out]; exact HY.out.1)⟩
                case measure => simp [intOf]; omega
              | false =>
                have HQ := Lib.hid (show liQ (q ++ [⟨on, oi⟩]) s = liQ q s by rw [HLA.out, HEN.out]; rfl)
                go_upto_region 24 with (go_at_call 17; (with_reducible refine (w_qput HLv.out on oi HSZ.out HWF.out 0 (q ++ [⟨on, oi⟩]) HT.out).mono ?_); rintro e u6 ⟨G6, rfl, h1, h2⟩; have HL6 := Lib.hid h1; have HB6 := Lib.hid (HB.out.step h2); have HX6 := Lib.hid (HXv.out.step h2); clear h1 h2; have f1 : u6.cell? ⟨kb, 1, none⟩ = some (.string on) := HB6.out.b.cell 1; have f2 : u6.cell? ⟨kb, 2, none⟩ = some (.int .i64 oi) := HB6.out.b.cell 2)
                go_wp2_with fail
                go_roundw
                case rel => exact ⟨i + 1, m, G6, (q ++ [⟨on, oi⟩]), A5, c5, by omega, by first | rfl | go_num, by go_num, HL6, Lib.hid (by rw [HQ.out]; exact HM.out), Lib.hid (by rw [HQ.out]; exact HX6.out)⟩
                case measure => simp [intOf]; omega
      · have hi2 : ¬ (i : Int) < (n : Int) := by omega
        go_wp2_with (first
          | (go_at_call 23; (with_reducible refine (w_qlist HL.out s HS.out (liQ q s) m ⟨rfl, HM.out⟩).mono ?_); rintro e u7 ⟨A7, c7, rfl, h1, h2⟩; have HR7 := Lib.hid (h1.ri (K := []) (fun _ hx => by cases hx)); have HS7 := Lib.hid (HX.out.ri.below h2 (Nat.le_refl _)); have HL7 := Lib.hid (HL.out.on h2); clear h1 h2)
          | (go_at_call 22; (with_reducible refine (same_b A7 A5 c7 c5 (liQ q s) _ _ u7 m HM.out HR7.out HS7.out (by omega)).mono ?_); rintro e u8 ⟨rfl, h1⟩; have HL8 := Lib.hid (HL7.out.on h1.b0); clear h1))
        go_ret
        exact ⟨rfl, HL8.out.l⟩
end Go.Proofs.Ytikkiifcnjiegaa
