/- LeaseLeaves: of a connection that leaves all names are kept that it held: the walk. (Written by gen_lzlv.py.) -/
import Derived.Test.YtpbobmiajjgekaaLzN
namespace Go.Proofs.Ytpbobmiajjgekaa
set_option linter.unusedVariables false
set_option maxRecDepth 100000
set_option linter.unusedSimpArgs false
open Go.RowKit

set_option maxRecDepth 100000 in
set_option maxHeartbeats 16000000 in
theorem walk_LeaseLeaves (A : Option Addr) (l : List Lo) (c : Nat) (conn now : Int) (W : World) (h : InL W A l c) :
    Calls Try.prog 9 #[.slice A l.length c, .int .i64 conn, .int .i64 now] W fun e w' => e = .returned (.bool true) ∧ Below W.heap.size W w' := by
  have HI := Lib.hid h
  have HHD := Lib.hid (fun u => lzhead_ok u)
  have HNEW := Lib.hid (fun u (hb : Below W.heap.size W u) => w_lnew (W := W) (u := u) (g := 5) (most := 50) hb (by decide) (by decide))
  have HGR := Lib.hid (fun u (hb : Below W.heap.size W u) => lzgreat_ok A l c u (h.on hb))
  obtain ⟨gr, hgr⟩ : ∃ gr, grB l = gr := ⟨_, rfl⟩
  have HGB := Lib.hid hgr
  simp only [hgr] at HGR
  obtain ⟨n, hn⟩ : ∃ n, l.length = n := ⟨_, rfl⟩
  have HN := Lib.hid hn
  rw [hn] at HGR ⊢
  clear h hgr hn
  by_cases k1 : now < 0
  · cases gr
    all_goals
      go_enter Try.func9, Try.ntmps9
      go_wp2_with (first | (go_at_call 10; (with_reducible refine (HHD.out _).mono ?_); rintro e u1 ⟨rfl, hb⟩; have HB1 := Lib.hid hb; clear hb) | (go_at_call 11; (with_reducible refine (HNEW.out _ HB1.out).mono ?_); rintro e u2 ⟨G, gb, rfl, h1, -, -⟩; have HL2 := Lib.hid h1; clear h1) | (go_at_call 13; (with_reducible refine (HGR.out _ HL2.out.l).mono ?_); rintro e u3 ⟨rfl, hb⟩; have HL3 := Lib.hid (HL2.out.on hb); clear hb))
      go_ret
      exact ⟨rfl, HL3.out.l⟩
  have k1b : decide (now < 0) = false := decide_eq_false k1
  by_cases k2 : now > 1099511627776
  · cases gr
    all_goals
      go_enter Try.func9, Try.ntmps9
      go_wp2_with (first | (go_at_call 10; (with_reducible refine (HHD.out _).mono ?_); rintro e u1 ⟨rfl, hb⟩; have HB1 := Lib.hid hb; clear hb) | (go_at_call 11; (with_reducible refine (HNEW.out _ HB1.out).mono ?_); rintro e u2 ⟨G, gb, rfl, h1, -, -⟩; have HL2 := Lib.hid h1; clear h1) | (go_at_call 13; (with_reducible refine (HGR.out _ HL2.out.l).mono ?_); rintro e u3 ⟨rfl, hb⟩; have HL3 := Lib.hid (HL2.out.on hb); clear hb))
      go_ret
      exact ⟨rfl, HL3.out.l⟩
  have k2b : decide (now > 1099511627776) = false := decide_eq_false k2
  have k2c : decide ((1099511627776 : Int) < now) = false := decide_eq_false (by omega)
  have HCK := Lib.hid (show clkB now = true by unfold clkB; rw [decide_eq_true (show 0 ≤ now by omega), decide_eq_true (show now ≤ 1099511627776 by omega)]; rfl)
  cases gr with
  | true =>
    go_enter Try.func9, Try.ntmps9
    go_wp2_with (first | (go_at_call 10; (with_reducible refine (HHD.out _).mono ?_); rintro e u1 ⟨rfl, hb⟩; have HB1 := Lib.hid hb; clear hb) | (go_at_call 11; (with_reducible refine (HNEW.out _ HB1.out).mono ?_); rintro e u2 ⟨G, gb, rfl, h1, -, -⟩; have HL2 := Lib.hid h1; clear h1) | (go_at_call 13; (with_reducible refine (HGR.out _ HL2.out.l).mono ?_); rintro e u3 ⟨rfl, hb⟩; have HL3 := Lib.hid (HL2.out.on hb); clear hb))
    go_ret
    exact ⟨rfl, HL3.out.l⟩
  | false =>
    have hfew : n ≤ 300 := by rw [← HN.out]; exact grB_few HGB.out
    go_enter Try.func9, Try.ntmps9
    go_wp2_with (first | (go_at_call 10; (with_reducible refine (HHD.out _).mono ?_); rintro e u1 ⟨rfl, hb⟩; have HB1 := Lib.hid hb; clear hb) | (go_at_call 11; (with_reducible refine (HNEW.out _ HB1.out).mono ?_); rintro e u2 ⟨G, gb, rfl, h1, -, -⟩; have HL2 := Lib.hid h1; clear h1) | (go_at_call 13; (with_reducible refine (HGR.out _ HL2.out.l).mono ?_); rintro e u3 ⟨rfl, hb⟩; have HL3 := Lib.hid (HL2.out.on hb); clear hb))
    clear k1 k1b k2 k2b k2c
    go_loopw [9] (fun v9 wr => ∃ (i : Nat) (G : List Nat) (b : Bo), i ≤ n ∧ v9 = .int .i64 (i : Int) ∧ Hid (Lw W wr G gb 5 50 b) ∧ Hid (b.nx ≤ (i : Int) + 1)) (fun v9 _ => n - (intOf v9).toNat)
    case atStart => exact ⟨0, G, ⟨[], 1⟩, by omega, rfl, HL3, Lib.hid (by decide)⟩
    case round =>
      obtain ⟨i, G1, b, hi, rfl, HL, HNI⟩ := hrel
      by_cases hi1 : i < n
      · have hi2 : (i : Int) < (n : Int) := by omega
        have HNX := Lib.hid (show b.nx ≤ 1000000 by have := HNI.out; omega)
        obtain ⟨bx, o, ox, rfl, hx, hsm, hc⟩ := HI.out.at7 i (by rw [HN.out]; exact hi1)
        have HC := Lib.hid hc
        have HSM := Lib.hid hsm
        clear hx hsm hc
        obtain ⟨ow, ot, on, oc, oe, oo, ol⟩ := ox
        dsimp only at HC
        obtain ⟨d0, d1, d2, d3, d4, d5, d6⟩ := HC.out wr HL.out.l
        obtain ⟨⟨⟨xn, xt, xc, xe, xu, xh⟩, er, b2⟩, hR⟩ : ∃ R, doL 5 50 b ⟨ow, ot, on, oc, oe, oo, ol⟩ = R := ⟨_, rfl⟩
        have HR := Lib.hid hR
        clear hR
        have HNN := Lib.hid (show b2.nx ≤ ((i + 1 : Nat) : Int) + 1 by have h1 := nx_step HL.out.ok HR.out; have h2 := HNI.out; omega)
        go_wp2_with (go_at_call 30; (with_reducible refine (w_does HL.out ⟨ow, ot, on, oc, oe, oo, ol⟩ HSM.out HNX.out _ HR.out).mono ?_); rintro e u4 ⟨G', rfl, h1, h2⟩; have HL4 := Lib.hid h1; have HS4 := Lib.hid h2; clear h1 h2)
        go_roundw
        case rel => exact ⟨i + 1, G', b2, by omega, by go_num, HL4, HNN⟩
        case measure => simp [intOf]; omega
      · have hi2 : ¬ (i : Int) < (n : Int) := by omega
        clear hi1 hi
        have HUP := Lib.hid HL.out.ok.up
        obtain ⟨m, hm⟩ : ∃ m, b.l.length = m := ⟨_, rfl⟩
        have HM := Lib.hid hm
        have hm64 : m ≤ 64 := by rw [← hm]; exact HL.out.ok.few
        clear hm
        go_upto_region 11 with (go_at_call 29; (with_reducible refine (w_all HL.out m HM.out).mono ?_); rintro e u5 ⟨A5, c5, rfl, h1, h2, hb⟩; have HA5 := Lib.hid h1; have HF5 := Lib.hid h2; have HL5 := Lib.hid (HL.out.on hb); clear h1 h2 hb)
        go_wp2_with fail
        go_loopw [10, 12] (fun v10 v12 wr => ∃ (j k : Nat) (A2 : Option Addr) (c2 : Nat), j ≤ m ∧ k ≤ j ∧ v10 = .slice A2 k c2 ∧ v12 = .int .i64 (j : Int) ∧ Hid (((b.l.take j).filter (fun x => decide (x.conn = conn) && heL x now)).length = k) ∧ Hid (OL13 wr u5.heap.size A2 c2 ((b.l.take j).filter (fun x => decide (x.conn = conn) && heL x now))) ∧ Hid (Below u5.heap.size u5 wr)) (fun v10 v12 _ => m - (intOf v12).toNat)
        case atStart => exact ⟨0, 0, none, 0, by omega, by omega, rfl, rfl, Lib.hid (by simp), Lib.hid (by rw [List.take_zero]; exact Ow.nil _ _), Lib.hid (Below.refl _ _)⟩
        case round =>
          obtain ⟨j, k, A2, c2, hj, hk, rfl, rfl, HK, HO, HB6⟩ := hrel
          by_cases hj1 : j < m
          · have hj2 : (j : Int) < (m : Int) := by omega
            obtain ⟨bx, o, x, rfl, hx, hcx⟩ := row6 HA5.out.rw_ j (by rw [HM.out]; exact hj1)
            have hxm : x ∈ b.l := List.mem_of_getElem? hx
            have HXS := Lib.hid (show x.name.size ≤ 140737488355328 by have := HL.out.ok.nm x hxm; omega)
            have hh := hold_mem HL.out.ok.up hxm now
            obtain ⟨hv, hhv⟩ : ∃ hv, heL x now = hv := ⟨_, rfl⟩
            rw [hhv] at hh
            have HH := Lib.hid hh
            have HT := Lib.hid (show (b.l.take (j + 1)).filter (fun x => decide (x.conn = conn) && heL x now) = (b.l.take j).filter (fun x => decide (x.conn = conn) && heL x now) ++ (if (decide (x.conn = conn) && hv) = true then [x] else []) by rw [List.take_add_one, hx, show (some x).toList = [x] from rfl, filter_snoc, hhv])
            obtain ⟨x0, _, _, _, _, _⟩ := hcx wr HB6.out
            have HL6 := Lib.hid (HL5.out.on HB6.out)
            clear hx hcx hxm hh hhv
            obtain ⟨xn, xt, xc, xe, xu, xh⟩ := x
            dsimp only at x0 HXS HH HT
            cases hv with
            | false =>
              have H1 := Lib.hid (And.intro (show (holdL b xn now).getD zeroLs = ⟨⟨#[]⟩, ⟨#[]⟩, 0, 0, 0, false⟩ by rw [HH.out]; rfl) (show (holdL b xn now).isSome = false by rw [HH.out]; rfl))
              go_wp2_with (go_at_call 27; (with_reducible refine (w_holder HL6.out xn now HXS.out _ _ H1.out.1 H1.out.2).mono ?_); rintro e u7 ⟨rfl, hb⟩; have HB7 := Lib.hid (HB6.out.trans ((hb.alloc hb.size (.cells #[.string ⟨#[]⟩, .string ⟨#[]⟩, .int .i64 0, .int .i64 0, .int .i64 0, .bool false] 32)).mono HB6.out.size)); have HO7 := Lib.hid (HO.out.on (hb.alloc hb.size (.cells #[.string ⟨#[]⟩, .string ⟨#[]⟩, .int .i64 0, .int .i64 0, .int .i64 0, .bool false] 32))); clear hb)
              go_roundw
              case rel => exact ⟨j + 1, k, A2, c2, by omega, by omega, rfl, by go_num, Lib.hid (by rw [HT.out]; simpa using HK.out), Lib.hid (by rw [HT.out]; simpa using HO7.out), HB7⟩
              case measure => simp [intOf]; omega
            | true =>
              have H1 := Lib.hid (And.intro (show (holdL b xn now).getD zeroLs = ⟨xn, xt, xc, xe, xu, xh⟩ by rw [HH.out]; rfl) (show (holdL b xn now).isSome = true by rw [HH.out]; rfl))
              go_upto_region 15 with (go_at_call 27; (with_reducible refine (w_holder HL6.out xn now HXS.out _ _ H1.out.1 H1.out.2).mono ?_); rintro e u7 ⟨rfl, hb⟩; have HB7 := Lib.hid hb; clear hb)
              obtain ⟨q7, hq⟩ : ∃ q, u7.heap.size = q := ⟨_, rfl⟩
              obtain ⟨v7, hv⟩ : ∃ v, u7.alloc (.cells #[.string xn, .string xt, .int .i64 xc, .int .i64 xe, .int .i64 xu, .bool xh] 32) = v := ⟨_, rfl⟩
              have HBv := Lib.hid (show Below wr.heap.size wr v7 by rw [← hv]; exact HB7.out.alloc HB7.out.size _)
              have HX7 := Lib.hid (show Bk v7 q7 32 #[.string xn, .string xt, .int .i64 xc, .int .i64 xe, .int .i64 xu, .bool xh] by rw [← hv, ← hq]; exact Bk.new _ _ _)
              have HB8 := Lib.hid (HB6.out.trans (HBv.out.mono HB6.out.size))
              have HO8 := Lib.hid (HO.out.on HBv.out)
              try dsimp only
              rw [hv]
              try rw [hq]
              clear hv hq x0
              have z0 : v7.cell? ⟨q7, 0, none⟩ = some (.string xn) := HX7.out.cell 0
              have z1 : v7.cell? ⟨q7, 1, none⟩ = some (.string xt) := HX7.out.cell 1
              have z2 : v7.cell? ⟨q7, 2, none⟩ = some (.int .i64 xc) := HX7.out.cell 2
              have z3 : v7.cell? ⟨q7, 3, none⟩ = some (.int .i64 xe) := HX7.out.cell 3
              have z4 : v7.cell? ⟨q7, 4, none⟩ = some (.int .i64 xu) := HX7.out.cell 4
              have z5 : v7.cell? ⟨q7, 5, none⟩ = some (.bool xh) := HX7.out.cell 5
              by_cases hcn : xc = conn
              · subst hcn
                have hcd : (xc == xc) = true := by simp
                have HOA := Lib.hid (HO8.out.on ((Below.refl v7.heap.size v7).alloc (Nat.le_refl _) (.cells #[.string xn, .string xt, .int .i64 xc, .int .i64 xe, .int .i64 xu, .bool xh] 32)))
                have HRX := Lib.hid (Rw.bk (f := lsc) (k := 6) (x := ⟨xn, xt, xc, xe, xu, xh⟩) (Bk.new v7 32 #[.string xn, .string xt, .int .i64 xc, .int .i64 xe, .int .i64 xu, .bool xh]))
                have HBA := Lib.hid (HB8.out.alloc HB8.out.size (.cells #[.string xn, .string xt, .int .i64 xc, .int .i64 xe, .int .i64 xu, .bool xh] 32))
                go_wp2_with (at_builtin; refine wp_rows0 roL rfl (.tmp 79) (.tmp 81) rfl k rfl HK.out HOA.out [⟨xn, xt, xc, xe, xu, xh⟩] (some ⟨v7.heap.size, 0, none⟩) 1 1 rfl rfl (fun h => by cases h) HRX.out (by omega) HBA.out.size (k + 1) rfl ?_; intro A9 c9 w9 ho9 hg9 hb9; have HO9 := Lib.hid ho9; have HB9 := Lib.hid (HBA.out.trans hb9); clear ho9 hg9 hb9)
                go_roundw
                case rel => exact ⟨j + 1, k + 1, A9, c9, by omega, by omega, by first | rfl | go_num, by go_num, Lib.hid (by rw [HT.out]; simp [HK.out]), Lib.hid (by rw [HT.out]; simpa using HO9.out), HB9⟩
                case measure => simp [intOf]; omega
              · have hcd : (xc == conn) = false := by simp [hcn]
                have HCN := Lib.hid hcn
                clear hcn
                go_wp2_with fail
                go_roundw
                case rel => exact ⟨j + 1, k, A2, c2, by omega, by omega, rfl, by go_num, Lib.hid (by rw [HT.out]; simp [HCN.out, HK.out]), Lib.hid (by rw [HT.out]; simpa [HCN.out] using HO8.out), HB8⟩
                case measure => simp [intOf]; omega
          · have hj2 : ¬ (j : Int) < (m : Int) := by omega
            have HTL := Lib.hid (show b.l.take j = b.l from List.take_of_length_le (by rw [HM.out]; omega))
            rw [HTL.out] at HK HO
            have hk64 : k ≤ 64 := by omega
            clear hj hj1
            obtain ⟨L, hL⟩ : ∃ L, b.l.filter (fun x => decide (x.conn = conn) && heL x now) = L := ⟨_, rfl⟩
            rw [hL] at HK HO
            have HLV := Lib.hid (show leaveL 5 b conn now = (L, ⟨b.l.map (lvX 5 conn now), b.nx⟩) by rw [leave_parts HCK.out, hL])
            have HL6 := Lib.hid (HL5.out.on HB6.out)
            have HA6 := Lib.hid (HA5.out.step (Sp.of (Ke.of HB6.out).nil))
            have HW6 := Lib.hid (show Rv wr G1 A2 L from rv_of HO.out HL5.out.hi)
            obtain ⟨l2, hl2⟩ : ∃ l2, b.l.map (lvX 5 conn now) = l2 := ⟨_, rfl⟩
            have HL2 := Lib.hid hl2
            have HM2 := Lib.hid (show l2.length = m by rw [← hl2, List.length_map, HM.out])
            rw [hl2] at HLV
            have HLA := Lib.hid (show leaveL 5 ⟨l2, b.nx⟩ conn now = ([], ⟨l2, b.nx⟩) by rw [← hl2]; exact leave_again HCK.out)
            clear hL hl2
            go_upto_region 18 with (go_at_call 21; (with_reducible refine (w_leave HL6.out conn now k L ⟨l2, b.nx⟩ (by rw [HLV.out]) (by rw [HLV.out]) HK.out).mono ?_); rintro e u7 ⟨A7, c7, rfl, h1, h2, h3, h4⟩; have HG7 := Lib.hid h1; have HL7 := Lib.hid h3; have HA7 := Lib.hid (HA6.out.step h4); have HW7 := Lib.hid (HW6.out.step h4); clear h1 h2 h3 h4)
            go_upto_region 21 with (first
              | (go_at_call 20; (with_reducible refine (rsame_yes A7 A2 c7 c2 L u7 k HK.out HG7.out.rw_ HW7.out.rw_ (by omega)).mono ?_); rintro e u8 ⟨rfl, hb⟩; have HL8 := Lib.hid (HL7.out.on hb); have HA8 := Lib.hid (HA7.out.step (Sp.of (Ke.of hb).nil)); clear hb)
              | (go_at_call 29; (with_reducible refine (w_all HL8.out m HM2.out).mono ?_); rintro e u9 ⟨A9, c9, rfl, h1, h2, hb⟩; have HL9 := Lib.hid (HL8.out.on hb); have HA9 := Lib.hid (HA8.out.step (Sp.of (Ke.of hb).nil)); clear h1 h2 hb)
              | (go_at_call 21; (with_reducible refine (w_leave HL9.out conn now 0 [] ⟨l2, b.nx⟩ (by rw [HLA.out]) (by rw [HLA.out]) rfl).mono ?_); rintro e ua ⟨Aa, ca, rfl, h1, h2, h3, h4⟩; have HLa := Lib.hid h3; have HAa := Lib.hid (HA9.out.step h4); clear h1 h2 h3 h4)
              | (go_at_call 29; (with_reducible refine (w_all HLa.out m HM2.out).mono ?_); rintro e ub ⟨Ab, cb, rfl, h1, h2, hb⟩; have HLb := Lib.hid (HLa.out.on hb); have HAb := Lib.hid (HAa.out.step (Sp.of (Ke.of hb).nil)); have HBb := Lib.hid h1; have HFb := Lib.hid h2; clear h1 h2 hb))
            go_wp2_with fail
            go_loopw [17] (fun v17 wr => ∃ (j : Nat), j ≤ m ∧ v17 = .int .i64 (j : Int) ∧ Hid (Below ub.heap.size ub wr)) (fun v17 _ => m - (intOf v17).toNat)
            case atStart => exact ⟨0, by omega, rfl, Lib.hid (Below.refl _ _)⟩
            case round =>
              obtain ⟨i3, hi3, rfl, HBR⟩ := hrel
              by_cases hi4 : i3 < m
              · have hi5 : (i3 : Int) < (m : Int) := by omega
                have HAr := Lib.hid (HAb.out.step (Sp.of (Ke.of HBR.out).nil))
                have HBr := Lib.hid (HBb.out.step (Sp.of (Ke.of HBR.out).nil))
                have HLr := Lib.hid (HLb.out.on HBR.out)
                obtain ⟨bx, o, x, rfl, hx, hcx⟩ := row6 HAr.out.rw_ i3 (by rw [HM.out]; exact hi4)
                obtain ⟨by_, oy, y, rfl, hy, hcy⟩ := row6 HBr.out.rw_ i3 (by rw [HM2.out]; exact hi4)
                have hxm : x ∈ b.l := List.mem_of_getElem? hx
                have HXS := Lib.hid (show x.name.size ≤ 140737488355328 by have := HL.out.ok.nm x hxm; omega)
                have hyx : y = lvX 5 conn now x := by
                  rw [← HL2.out, List.getElem?_map, hx] at hy
                  injection hy with hy
                  exact hy.symm
                have hym : y ∈ l2 := List.mem_of_getElem? hy
                have hnm : y.name = x.name := by rw [hyx, lvX_name]
                have hh := hold_mem (b := ⟨l2, b.nx⟩) HLb.out.ok.up hym now
                rw [hnm] at hh
                have hoff : (decide (y.conn = conn) && heL y now) = false := by rw [hyx]; exact lvX_off _ _ _ _
                have hsame : x.conn ≠ conn → y = x := fun hne => by rw [hyx]; exact lvX_no (by rw [decide_eq_false hne]; rfl)
                have hcc : y.conn = x.conn := by rw [hyx]; unfold lvX; split <;> rfl
                rw [hcc] at hoff
                have HCX := Lib.hid hcx
                have HCY := Lib.hid hcy
                obtain ⟨hv, hhv⟩ : ∃ hv, heL y now = hv := ⟨_, rfl⟩
                rw [hhv] at hh hoff
                have HH := Lib.hid hh
                have HOF := Lib.hid hoff
                have HSA := Lib.hid hsame
                obtain ⟨x0, _, _, _, _, _⟩ := HCX.out wr (Below.refl _ _)
                clear hx hy hcx hcy hxm hym hyx hnm hh hoff hsame hhv
                obtain ⟨xn, xt, xc, xe, xu, xh⟩ := x
                dsimp only at x0 HXS HH HOF HSA hcc HCX
                by_cases hcn : xc = conn
                · subst hcn
                  have hof := HOF.out
                  rw [decide_eq_true rfl, Bool.true_and] at hof
                  subst hof
                  have H1 := Lib.hid (And.intro (show (holdL ⟨l2, b.nx⟩ xn now).getD zeroLs = ⟨⟨#[]⟩, ⟨#[]⟩, 0, 0, 0, false⟩ by rw [HH.out]; rfl) (show (holdL ⟨l2, b.nx⟩ xn now).isSome = false by rw [HH.out]; rfl))
                  have hcd : (xc != xc) = false := by simp
                  clear hcc
                  go_upto_region 25 with (go_at_call 27; (with_reducible refine (w_holder HLr.out xn now HXS.out _ _ H1.out.1 H1.out.2).mono ?_); rintro e uc ⟨rfl, hb⟩; have HBc := Lib.hid (hb.alloc hb.size (.cells #[.string ⟨#[]⟩, .string ⟨#[]⟩, .int .i64 0, .int .i64 0, .int .i64 0, .bool false] 32)); clear hb)
                  obtain ⟨vc, hv⟩ : ∃ v, uc.alloc (.cells #[.string ⟨#[]⟩, .string ⟨#[]⟩, .int .i64 0, .int .i64 0, .int .i64 0, .bool false] 32) = v := ⟨_, rfl⟩
                  rw [hv] at HBc
                  try dsimp only
                  rw [hv]
                  clear hv x0
                  obtain ⟨x0, x1, x2, x3, x4, x5⟩ := HCX.out vc HBc.out
                  go_quiet (fail)
                  go_wp2
                  go_roundw
                  case rel => exact ⟨i3 + 1, by omega, by go_num, Lib.hid ((HBR.out.trans (HBc.out.mono HBR.out.size)).trans ((below_dn _).mono (Nat.le_trans HBR.out.size HBc.out.size)))⟩
                  case measure => simp [intOf]; omega
                · obtain rfl : y = ⟨xn, xt, xc, xe, xu, xh⟩ := HSA.out hcn
                  have hcd : (xc != conn) = true := by simp [hcn]
                  have hce : (xc == conn) = false := by simp [hcn]
                  dsimp only at HCY
                  clear hcn hcc
                  cases hv with
                  | false =>
                    have H1 := Lib.hid (And.intro (show (holdL ⟨l2, b.nx⟩ xn now).getD zeroLs = ⟨⟨#[]⟩, ⟨#[]⟩, 0, 0, 0, false⟩ by rw [HH.out]; rfl) (show (holdL ⟨l2, b.nx⟩ xn now).isSome = false by rw [HH.out]; rfl))
                    go_upto_region 25 with (go_at_call 27; (with_reducible refine (w_holder HLr.out xn now HXS.out _ _ H1.out.1 H1.out.2).mono ?_); rintro e uc ⟨rfl, hb⟩; have HBc := Lib.hid (hb.alloc hb.size (.cells #[.string ⟨#[]⟩, .string ⟨#[]⟩, .int .i64 0, .int .i64 0, .int .i64 0, .bool false] 32)); clear hb)
                    obtain ⟨vc, hv⟩ : ∃ v, uc.alloc (.cells #[.string ⟨#[]⟩, .string ⟨#[]⟩, .int .i64 0, .int .i64 0, .int .i64 0, .bool false] 32) = v := ⟨_, rfl⟩
                    rw [hv] at HBc
                    try dsimp only
                    rw [hv]
                    clear hv x0
                    obtain ⟨x0, x1, x2, x3, x4, x5⟩ := HCX.out vc HBc.out
                    obtain ⟨y0, y1, y2, y3, y4, y5⟩ := HCY.out vc HBc.out
                    go_quiet (fail)
                    go_wp2
                    go_roundw
                    case rel => exact ⟨i3 + 1, by omega, by go_num, Lib.hid ((HBR.out.trans (HBc.out.mono HBR.out.size)).trans ((below_dn _).mono (Nat.le_trans HBR.out.size HBc.out.size)))⟩
                    case measure => simp [intOf]; omega
                  | true =>
                    have H1 := Lib.hid (And.intro (show (holdL ⟨l2, b.nx⟩ xn now).getD zeroLs = ⟨xn, xt, xc, xe, xu, xh⟩ by rw [HH.out]; rfl) (show (holdL ⟨l2, b.nx⟩ xn now).isSome = true by rw [HH.out]; rfl))
                    go_upto_region 25 with (go_at_call 27; (with_reducible refine (w_holder HLr.out xn now HXS.out _ _ H1.out.1 H1.out.2).mono ?_); rintro e uc ⟨rfl, hb⟩; have HBc := Lib.hid (hb.alloc hb.size (.cells #[.string xn, .string xt, .int .i64 xc, .int .i64 xe, .int .i64 xu, .bool xh] 32)); have HXC := Lib.hid (Bk.new uc 32 #[.string xn, .string xt, .int .i64 xc, .int .i64 xe, .int .i64 xu, .bool xh]); clear hb)
                    obtain ⟨qc, hq⟩ : ∃ q, uc.heap.size = q := ⟨_, rfl⟩
                    obtain ⟨vc, hv⟩ : ∃ v, uc.alloc (.cells #[.string xn, .string xt, .int .i64 xc, .int .i64 xe, .int .i64 xu, .bool xh] 32) = v := ⟨_, rfl⟩
                    rw [hv] at HBc HXC
                    rw [hq] at HXC
                    try dsimp only
                    rw [hv]
                    try rw [hq]
                    clear hv hq x0
                    obtain ⟨x0, x1, x2, x3, x4, x5⟩ := HCX.out vc HBc.out
                    obtain ⟨y0, y1, y2, y3, y4, y5⟩ := HCY.out vc HBc.out
                    have z2 : vc.cell? ⟨qc, 2, none⟩ = some (.int .i64 xc) := HXC.out.cell 2
                    go_quiet (fail)
                    go_wp2
                    go_roundw
                    case rel => exact ⟨i3 + 1, by omega, by go_num, Lib.hid ((HBR.out.trans (HBc.out.mono HBR.out.size)).trans ((below_dn _).mono (Nat.le_trans HBR.out.size HBc.out.size)))⟩
                    case measure => simp [intOf]; omega
              · have hi5 : ¬ (i3 : Int) < (m : Int) := by omega
                go_wp2_with fail
                go_ret
                exact ⟨rfl, (HLb.out.on HBR.out).l⟩
end Go.Proofs.Ytpbobmiajjgekaa
