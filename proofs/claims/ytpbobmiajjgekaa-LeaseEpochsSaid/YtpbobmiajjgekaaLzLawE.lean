/- LeaseEpochs: each claim that is granted has an epoch above all ahead of it: the walk. (Written by gen_lzep.py.) -/
import Derived.Test.YtpbobmiajjgekaaLzN
namespace Go.Proofs.Ytpbobmiajjgekaa
set_option linter.unusedVariables false
set_option maxRecDepth 100000
set_option linter.unusedSimpArgs false
open Go.RowKit

set_option maxRecDepth 100000 in
set_option maxHeartbeats 16000000 in
theorem walk_LeaseEpochs (A : Option Addr) (l : List Lo) (c : Nat) (W : World) (h : InL W A l c) :
    Calls Try.prog 5 #[.slice A l.length c] W fun e w' => e = .returned (.bool true) ∧ Below W.heap.size W w' := by
  have HI := Lib.hid h
  have HHD := Lib.hid (fun u => lzhead_ok u)
  have HNEW := Lib.hid (fun u (hb : Below W.heap.size W u) => w_lnew (W := W) (u := u) (g := 5) (most := 50) hb (by decide) (by decide))
  have HGR := Lib.hid (fun u (hb : Below W.heap.size W u) => lzgreat_ok A l c u (h.on hb))
  obtain ⟨gr, hgr⟩ : ∃ gr, grB l = gr := ⟨_, rfl⟩
  have HGB := Lib.hid hgr
  simp only [hgr] at HGR
  obtain ⟨n, hn⟩ : ∃ n, l.length = n := ⟨_, rfl⟩
  have HN := Lib.hid hn
  rw [hn] at HGR ⊢
  clear h hgr hn
  cases gr with
  | true =>
    go_enter Try.func5, Try.ntmps5
    go_wp2_with (first | (go_at_call 10; (with_reducible refine (HHD.out _).mono ?_); rintro e u1 ⟨rfl, hb⟩; have HB1 := Lib.hid hb; clear hb) | (go_at_call 11; (with_reducible refine (HNEW.out _ HB1.out).mono ?_); rintro e u2 ⟨G, gb, rfl, h1, -, -⟩; have HL2 := Lib.hid h1; clear h1) | (go_at_call 13; (with_reducible refine (HGR.out _ HL2.out.l).mono ?_); rintro e u3 ⟨rfl, hb⟩; have HL3 := Lib.hid (HL2.out.on hb); clear hb))
    go_ret
    exact ⟨rfl, HL3.out.l⟩
  | false =>
    have hfew : n ≤ 300 := by rw [← HN.out]; exact grB_few HGB.out
    go_enter Try.func5, Try.ntmps5
    go_wp2_with (first | (go_at_call 10; (with_reducible refine (HHD.out _).mono ?_); rintro e u1 ⟨rfl, hb⟩; have HB1 := Lib.hid hb; clear hb) | (go_at_call 11; (with_reducible refine (HNEW.out _ HB1.out).mono ?_); rintro e u2 ⟨G, gb, rfl, h1, -, -⟩; have HL2 := Lib.hid h1; clear h1) | (go_at_call 13; (with_reducible refine (HGR.out _ HL2.out.l).mono ?_); rintro e u3 ⟨rfl, hb⟩; have HL3 := Lib.hid (HL2.out.on hb); clear hb))
    go_loopw [5, 6] (fun v5 v6 wr => ∃ (i : Nat) (G : List Nat) (b : Bo) (la : Int), i ≤ n ∧ v5 = .int .i64 la ∧ v6 = .int .i64 (i : Int) ∧ Hid (Lw W wr G gb 5 50 b) ∧ Hid (EpL b ∧ b.nx = la + 1 ∧ b.nx ≤ (i : Int) + 1)) (fun v5 v6 _ => n - (intOf v6).toNat)
    case atStart => exact ⟨0, G, ⟨[], 1⟩, 0, by omega, rfl, rfl, HL3, Lib.hid ⟨(fun x hx => (by cases hx)), by decide, by decide⟩⟩
    case round =>
      obtain ⟨i, G1, b, la, hi, rfl, rfl, HL, HEP⟩ := hrel
      by_cases hi1 : i < n
      · have hi2 : (i : Int) < (n : Int) := by omega
        have HNX := Lib.hid (show b.nx ≤ 1000000 by have := HEP.out.2.2; omega)
        obtain ⟨bx, o, ox, rfl, hx, hsm, hc⟩ := HI.out.at7 i (by rw [HN.out]; exact hi1)
        have HC := Lib.hid hc
        have HSM := Lib.hid hsm
        clear hx hsm hc
        obtain ⟨ow, ot, on, oc, oe, oo, ol⟩ := ox
        dsimp only at HC
        obtain ⟨d0, d1, d2, d3, d4, d5, d6⟩ := HC.out wr HL.out.l
        obtain ⟨⟨⟨xn, xt, xc, xe, xu, xh⟩, er, b2⟩, hR⟩ : ∃ R, doL 5 50 b ⟨ow, ot, on, oc, oe, oo, ol⟩ = R := ⟨_, rfl⟩
        have HR := Lib.hid hR
        clear hR
        have HE := Lib.hid (ep_step (by decide) HEP.out.1 HR.out)
        have HNN := Lib.hid (show b2.nx ≤ ((i + 1 : Nat) : Int) + 1 by have h1 := HE.out.hi; have h2 := HEP.out.2.2; omega)
        go_upto_region 10 with (go_at_call 30; (with_reducible refine (w_does HL.out ⟨ow, ot, on, oc, oe, oo, ol⟩ HSM.out HNX.out _ HR.out).mono ?_); rintro e u4 ⟨G', rfl, h1, h2⟩; have HL4 := Lib.hid h1; have HS4 := Lib.hid h2; clear h1 h2)
        obtain ⟨gy, hgy⟩ : ∃ gy, u4.heap.size = gy := ⟨_, rfl⟩
        obtain ⟨u5, hu5⟩ : ∃ u5, u4.alloc (.cells #[.string xn, .string xt, .int .i64 xc, .int .i64 xe, .int .i64 xu, .bool xh] 32) = u5 := ⟨_, rfl⟩
        have HL5 := Lib.hid (show Lw W u5 G' gb 5 50 b2 by rw [← hu5]; exact HL4.out.on ((Below.refl _ _).alloc (Nat.le_refl _) _))
        have HY := Lib.hid (show Bk u5 gy 32 #[.string xn, .string xt, .int .i64 xc, .int .i64 xe, .int .i64 xu, .bool xh] by rw [← hu5, ← hgy]; exact Bk.new _ _ _)
        try dsimp only
        rw [hu5]
        try rw [hgy]
        clear hu5 hgy d0 d1 d2 d3 d4 d5 d6
        obtain ⟨d0, d1, d2, d3, d4, d5, d6⟩ := HC.out u5 HL5.out.l
        have y0 : u5.cell? ⟨gy, 0, none⟩ = some (.string xn) := HY.out.cell 0
        have y1 : u5.cell? ⟨gy, 1, none⟩ = some (.string xt) := HY.out.cell 1
        have y2 : u5.cell? ⟨gy, 2, none⟩ = some (.int .i64 xc) := HY.out.cell 2
        have y3 : u5.cell? ⟨gy, 3, none⟩ = some (.int .i64 xe) := HY.out.cell 3
        have y4 : u5.cell? ⟨gy, 4, none⟩ = some (.int .i64 xu) := HY.out.cell 4
        have y5 : u5.cell? ⟨gy, 5, none⟩ = some (.bool xh) := HY.out.cell 5
        by_cases he : er = 0
        · obtain ⟨z, hz⟩ : ∃ z, eqLs ⟨xn, xt, xc, xe, xu, xh⟩ ⟨⟨#[]⟩, ⟨#[]⟩, 0, 0, 0, false⟩ = z := ⟨_, rfl⟩
          have HZ := Lib.hid hz
          have HE0 := Lib.hid he
          subst he
          clear hz
          cases z with
          | true =>
            have HQ := Lib.hid (HE.out.no (.inr ((eqLs_iff _ _).1 HZ.out)))
            go_wp2_with (refine wpList_eql (by kernel_rfl) (.tmp 40) (.tmp 41) _ rfl ⟨xn, xt, xc, xe, xu, xh⟩ ⟨⟨#[]⟩, ⟨#[]⟩, 0, 0, 0, false⟩ rfl rfl ?_; rw [HZ.out])
            go_roundw
            case rel => exact ⟨i + 1, G', b2, la, by omega, rfl, by go_num, HL5, Lib.hid ⟨HE.out.ep, by rw [HQ.out]; exact HEP.out.2.1, HNN.out⟩⟩
            case measure => simp [intOf]; omega
          | false =>
            have HNZ := Lib.hid (show (⟨xn, xt, xc, xe, xu, xh⟩ : Ls) ≠ zeroLs from fun e => by
              have := (eqLs_iff _ _).2 e
              have h2 := HZ.out
              rw [show eqLs ⟨xn, xt, xc, xe, xu, xh⟩ ⟨⟨#[]⟩, ⟨#[]⟩, 0, 0, 0, false⟩ = eqLs ⟨xn, xt, xc, xe, xu, xh⟩ zeroLs from rfl, this] at h2
              cases h2)
            by_cases hw : ow = 2
            · have HQ := Lib.hid (HE.out.rn rfl HNZ.out hw)
              subst hw
              have k1 : xe = oe := HQ.out.1
              subst k1
              have k2 : (xe != xe) = false := by simp
              have k3 : decide (la < xe) = false := decide_eq_false (by have h1 := HQ.out.2.1; have h2 := HEP.out.2.1; dsimp only at h1; omega)
              have k4 : decide (xe > la) = false := k3
              go_wp2_with (refine wpList_eql (by kernel_rfl) (.tmp 40) (.tmp 41) _ rfl ⟨xn, xt, xc, xe, xu, xh⟩ ⟨⟨#[]⟩, ⟨#[]⟩, 0, 0, 0, false⟩ rfl rfl ?_; rw [HZ.out])
              go_quiet (fail)
              go_wp2
              go_roundw
              case rel => exact ⟨i + 1, G', b2, la, by omega, rfl, by go_num, Lib.hid (HL5.out.ke (Ke.of (below_dn _))), Lib.hid ⟨HE.out.ep, by rw [HQ.out.2.2]; exact HEP.out.2.1, HNN.out⟩⟩
              case measure => simp [intOf]; omega
            · have HQ := Lib.hid (HE.out.cl rfl HNZ.out hw)
              have hw2 : (ow == 2) = false := by simp [hw]
              have k1 : decide (xe ≤ la) = false := decide_eq_false (by have h1 := HQ.out.1; have h2 := HEP.out.2.1; dsimp only at h1; omega)
              have k2 : decide (xu ≤ oo) = false := decide_eq_false (by have h1 := HQ.out.2.2.2; dsimp only at h1; omega)
              obtain rfl : xh = true := HQ.out.2.2.1
              have HW := Lib.hid hw
              clear hw
              go_wp2_with (refine wpList_eql (by kernel_rfl) (.tmp 40) (.tmp 41) _ rfl ⟨xn, xt, xc, xe, xu, true⟩ ⟨⟨#[]⟩, ⟨#[]⟩, 0, 0, 0, false⟩ rfl rfl ?_; rw [HZ.out])
              go_quiet (fail)
              go_wp2
              go_roundw
              case rel => exact ⟨i + 1, G', b2, xe, by omega, rfl, by go_num, Lib.hid (HL5.out.ke (Ke.of (below_dn _))), Lib.hid ⟨HE.out.ep, by rw [HQ.out.2.1]; have := HQ.out.1; omega, HNN.out⟩⟩
              case measure => simp [intOf]; omega
        · have he2 : (er != 0) = true := by simp [he]
          have HQ := Lib.hid (HE.out.no (.inl he))
          clear he
          go_wp2_with fail
          go_roundw
          case rel => exact ⟨i + 1, G', b2, la, by omega, rfl, by go_num, HL5, Lib.hid ⟨HE.out.ep, by rw [HQ.out]; exact HEP.out.2.1, HNN.out⟩⟩
          case measure => simp [intOf]; omega
      · have hi2 : ¬ (i : Int) < (n : Int) := by omega
        go_wp2_with fail
        go_ret
        exact ⟨rfl, HL.out.l⟩
end Go.Proofs.Ytpbobmiajjgekaa
