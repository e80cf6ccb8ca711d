/- LeaseTimes: what is claimed is held until its time; what is refused changes nothing: the walk. (Written by gen_lztm.py.) -/
import Derived.Test.YtpbobmiajjgekaaLzN
import Derived.Test.YtpbobmiajjgekaaSRef2
namespace Go.Proofs.Ytpbobmiajjgekaa
set_option linter.unusedVariables false
set_option maxRecDepth 100000
set_option linter.unusedSimpArgs false
open Go.RowKit
theorem claim_arg {g most : Int} {b : Bo} {ten s : ByteArray} {conn now ttl : Int} {x : Ls} {b2 : Bo} (h : claimL g most b ten s conn now ttl = (x, 1, b2)) : (nameB ten && nameB s && clkB now && timB ttl) = false := by
  cases hq : (nameB ten && nameB s && clkB now && timB ttl) with
  | false => rfl
  | true =>
    unfold claimL at h
    rw [hq, if_neg (by simp)] at h
    split at h
    · split at h
      · simp at h
      · split at h
        · simp at h
        · simp at h
    · split at h
      · simp at h
      · simp at h

set_option maxRecDepth 100000 in
set_option maxHeartbeats 16000000 in
theorem walk_LeaseTimes (A : Option Addr) (l : List Lo) (c : Nat) (ten s : ByteArray) (now ttl : Int) (P : Nat) (W : World) (h : InL W A l c) (ht : ten.size ≤ 140737488355328) (hs : s.size ≤ 140737488355328) (hP : P < 65536) :
    Calls Try.prog 7 #[.slice A l.length c, .string ten, .string s, .int .i64 now, .int .i64 ttl, .int .u16 (P : Int)] W fun e w' => e = .returned (.bool true) ∧ Below W.heap.size W w' := by
  have HI := Lib.hid h
  have HHD := Lib.hid (fun u => lzhead_ok u)
  have HNEW := Lib.hid (fun u (hb : Below W.heap.size W u) => w_lnew (W := W) (u := u) (g := 5) (most := 50) hb (by decide) (by decide))
  have HGR := Lib.hid (fun u (hb : Below W.heap.size W u) => lzgreat_ok A l c u (h.on hb))
  obtain ⟨gr, hgr⟩ : ∃ gr, grB l = gr := ⟨_, rfl⟩
  have HGB := Lib.hid hgr
  simp only [hgr] at HGR
  obtain ⟨n, hn⟩ : ∃ n, l.length = n := ⟨_, rfl⟩
  have HN := Lib.hid hn
  rw [hn] at HGR ⊢
  clear h hgr hn
  obtain ⟨t, ht0⟩ : ∃ t : Nat, ten.size + s.size = t := ⟨_, rfl⟩
  have hw : IntKind.i64.wrap ((ten.size : Int) + (s.size : Int)) = (t : Int) := (iwrap _ t (by omega) (by omega)).1
  have HTS := Lib.hid (And.intro ht hs)
  clear ht hs ht0
  by_cases hbig : t > 1000
  · have hb1 : (t : Int) > 1000 := by omega
    have hb2 : decide ((1000 : Int) < (t : Int)) = true := decide_eq_true (by omega)
    cases gr
    all_goals
      go_enter Try.func7, Try.ntmps7
      go_wp2_with (first | (go_at_call 10; (with_reducible refine (HHD.out _).mono ?_); rintro e u1 ⟨rfl, hb⟩; have HB1 := Lib.hid hb; clear hb) | (go_at_call 11; (with_reducible refine (HNEW.out _ HB1.out).mono ?_); rintro e u2 ⟨G, gb, rfl, h1, -, -⟩; have HL2 := Lib.hid h1; clear h1) | (go_at_call 13; (with_reducible refine (HGR.out _ HL2.out.l).mono ?_); rintro e u3 ⟨rfl, hb⟩; have HL3 := Lib.hid (HL2.out.on hb); clear hb))
      go_ret
      exact ⟨rfl, HL3.out.l⟩
  have hb1 : ¬ (t : Int) > 1000 := by omega
  have hb2 : decide ((1000 : Int) < (t : Int)) = false := decide_eq_false (by omega)
  clear hbig
  cases gr with
  | true =>
    go_enter Try.func7, Try.ntmps7
    go_wp2_with (first | (go_at_call 10; (with_reducible refine (HHD.out _).mono ?_); rintro e u1 ⟨rfl, hb⟩; have HB1 := Lib.hid hb; clear hb) | (go_at_call 11; (with_reducible refine (HNEW.out _ HB1.out).mono ?_); rintro e u2 ⟨G, gb, rfl, h1, -, -⟩; have HL2 := Lib.hid h1; clear h1) | (go_at_call 13; (with_reducible refine (HGR.out _ HL2.out.l).mono ?_); rintro e u3 ⟨rfl, hb⟩; have HL3 := Lib.hid (HL2.out.on hb); clear hb))
    go_ret
    exact ⟨rfl, HL3.out.l⟩
  | false =>
    have hfew : n ≤ 300 := by rw [← HN.out]; exact grB_few HGB.out
    go_enter Try.func7, Try.ntmps7
    go_wp2_with (first | (go_at_call 10; (with_reducible refine (HHD.out _).mono ?_); rintro e u1 ⟨rfl, hb⟩; have HB1 := Lib.hid hb; clear hb) | (go_at_call 11; (with_reducible refine (HNEW.out _ HB1.out).mono ?_); rintro e u2 ⟨G, gb, rfl, h1, -, -⟩; have HL2 := Lib.hid h1; clear h1) | (go_at_call 13; (with_reducible refine (HGR.out _ HL2.out.l).mono ?_); rintro e u3 ⟨rfl, hb⟩; have HL3 := Lib.hid (HL2.out.on hb); clear hb))
    clear hw
    go_loopw [15] (fun v15 wr => ∃ (i : Nat) (G : List Nat) (b : Bo), i ≤ n ∧ v15 = .int .i64 (i : Int) ∧ Hid (Lw W wr G gb 5 50 b) ∧ Hid (EpL b ∧ b.nx ≤ (i : Int) + 1)) (fun v15 _ => n - (intOf v15).toNat)
    case atStart => exact ⟨0, G, ⟨[], 1⟩, by omega, rfl, HL3, Lib.hid ⟨(fun x hx => (by cases hx)), by decide⟩⟩
    case round =>
      obtain ⟨i, G1, b, hi, rfl, HLW, HEP⟩ := hrel
      by_cases hi1 : i < n
      · have hi2 : (i : Int) < (n : Int) := by omega
        have HNX := Lib.hid (show b.nx ≤ 1000000 by have := HEP.out.2; omega)
        obtain ⟨m, hm⟩ : ∃ m, b.l.length = m := ⟨_, rfl⟩
        have HM := Lib.hid hm
        have hm64 : m ≤ 64 := by rw [← hm]; exact HLW.out.ok.few
        clear hm
        go_upto_region 9 with (go_at_call 29; (with_reducible refine (w_all HLW.out m HM.out).mono ?_); rintro e u3 ⟨A3, c3, rfl, h1, h2, hb⟩; have HA3 := Lib.hid h1; have HL := Lib.hid (HLW.out.on hb); clear h1 h2 hb)
        obtain ⟨bx, o, ox, rfl, hx, hsm, hc⟩ := HI.out.at7 i (by rw [HN.out]; exact hi1)
        have HC := Lib.hid hc
        have HSM := Lib.hid hsm
        clear hx hsm hc
        obtain ⟨ow, ot, on, oc, oe, oo, ol⟩ := ox
        dsimp only at HC
        obtain ⟨d0, d1, d2, d3, d4, d5, d6⟩ := HC.out u3 HL.out.l
        obtain ⟨⟨⟨xn, xt, xc, xe, xu, xh⟩, er, b2⟩, hR⟩ : ∃ R, doL 5 50 b ⟨ow, ot, on, oc, oe, oo, ol⟩ = R := ⟨_, rfl⟩
        have HR := Lib.hid hR
        clear hR
        have HE := Lib.hid (ep_step (by decide) HEP.out.1 HR.out)
        have HNN := Lib.hid (show b2.nx ≤ ((i + 1 : Nat) : Int) + 1 by have h1 := HE.out.hi; have h2 := HEP.out.2; omega)
        by_cases he : er = 0
        · subst he
          go_wp2_with (go_at_call 30; (with_reducible refine (w_does HL.out ⟨ow, ot, on, oc, oe, oo, ol⟩ HSM.out HNX.out _ HR.out).mono ?_); rintro e u4 ⟨G', rfl, h1, h2⟩; have HL4 := Lib.hid h1; have HS4 := Lib.hid h2; clear h1 h2)
          go_roundw
          case rel => exact ⟨i + 1, G', b2, by omega, by go_num, Lib.hid (HL4.out.on ((Below.refl _ _).alloc (Nat.le_refl _) _)), Lib.hid ⟨HE.out.ep, HNN.out⟩⟩
          case measure => simp [intOf]; omega
        · obtain ⟨q1, rfl⟩ := HE.out.er he
          injection q1 with r1 r2 r3 r4 r5 r6
          obtain rfl : xn = ⟨#[]⟩ := r1
          obtain rfl : xt = ⟨#[]⟩ := r2
          subst r3; subst r4; subst r5; subst r6
          have he2 : (er != 0) = true := by simp [he]
          clear he
          go_upto_region 10 with (go_at_call 30; (with_reducible refine (w_does HL.out ⟨ow, ot, on, oc, oe, oo, ol⟩ HSM.out HNX.out _ HR.out).mono ?_); rintro e u4 ⟨G', rfl, h1, h2⟩; have HL4 := Lib.hid h1; have HS4 := Lib.hid h2; clear h1 h2)
          obtain ⟨gy, hgy⟩ : ∃ gy, u4.heap.size = gy := ⟨_, rfl⟩
          obtain ⟨u5, hu5⟩ : ∃ u5, u4.alloc (.cells #[.string ⟨#[]⟩, .string ⟨#[]⟩, .int .i64 0, .int .i64 0, .int .i64 0, .bool false] 32) = u5 := ⟨_, rfl⟩
          have HL5 := Lib.hid (show Lw W u5 G' gb 5 50 b2 by rw [← hu5]; exact HL4.out.on ((Below.refl _ _).alloc (Nat.le_refl _) _))
          have HA5 := Lib.hid (show Rv u5 G' A3 b2.l by rw [← hu5]; exact (HA3.out.step HS4.out).step (Sp.of (Ke.of ((Below.refl _ _).alloc (Nat.le_refl _) _)).nil))
          have HY := Lib.hid (show Bz u5 G' gy 32 #[.string ⟨#[]⟩, .string ⟨#[]⟩, .int .i64 0, .int .i64 0, .int .i64 0, .bool false] by rw [← hu5, ← hgy]; exact Bz.new HL4.out.hi _ _)
          try dsimp only
          rw [hu5]
          try rw [hgy]
          clear hu5 hgy d0 d1 d2 d3 d4 d5 d6
          have HYY := Lib.hid (show ∀ u, Below u5.heap.size u5 u → Bk u gy 32 #[.string ⟨#[]⟩, .string ⟨#[]⟩, .int .i64 0, .int .i64 0, .int .i64 0, .bool false] from fun u hb => HY.out.b.below hb HY.out.b.lt)
          go_wp2_with (first
            | (go_at_call 29; (with_reducible refine (w_all HL5.out m HM.out).mono ?_); rintro e ua ⟨Aa, ca, rfl, h1, h2, hb⟩; have HAa := Lib.hid h1; have HLa := Lib.hid (HL5.out.on hb); have HAo := Lib.hid (HA5.out.step (Sp.of (Ke.of hb).nil)); have HBa := Lib.hid hb; clear h1 h2 hb)
            | (go_at_call 20; (with_reducible refine (rsame_yes Aa _ ca _ b2.l ua m HM.out HAa.out.rw_ HAo.out.rw_ (by omega)).mono ?_); rintro e ub ⟨rfl, hb⟩; have HLb := Lib.hid (HLa.out.on hb); have hyb := HYY.out ub (HBa.out.trans (hb.mono HBa.out.size)); have y0 : ub.cell? ⟨gy, 0, none⟩ = some (.string ⟨#[]⟩) := hyb.cell 0; have y1 : ub.cell? ⟨gy, 1, none⟩ = some (.string ⟨#[]⟩) := hyb.cell 1; have y2 : ub.cell? ⟨gy, 2, none⟩ = some (.int .i64 0) := hyb.cell 2; have y3 : ub.cell? ⟨gy, 3, none⟩ = some (.int .i64 0) := hyb.cell 3; have y4 : ub.cell? ⟨gy, 4, none⟩ = some (.int .i64 0) := hyb.cell 4; have y5 : ub.cell? ⟨gy, 5, none⟩ = some (.bool false) := hyb.cell 5; clear hb hyb)
            | (refine wpList_nel (by kernel_rfl) (.tmp 71) (.tmp 72) _ rfl ⟨⟨#[]⟩, ⟨#[]⟩, 0, 0, 0, false⟩ ⟨⟨#[]⟩, ⟨#[]⟩, 0, 0, 0, false⟩ rfl rfl ?_; rw [eqLs_same]))
          go_roundw
          case rel => exact ⟨i + 1, G', b2, by omega, by go_num, HLb, Lib.hid ⟨HE.out.ep, HNN.out⟩⟩
          case measure => simp [intOf]; omega
      · have hi2 : ¬ (i : Int) < (n : Int) := by omega
        have HNX := Lib.hid (show b.nx ≤ 1000000 by have := HEP.out.2; omega)
        have HUP := Lib.hid HLW.out.ok.up
        clear hi1 hi
        obtain ⟨nx, hnx⟩ : ∃ nx, b.nx = nx := ⟨_, rfl⟩
        rcases claim_cases 5 50 b ten s 7 now ttl with ⟨e, he, h1⟩ | ⟨x, hg, h1⟩
        · have H2 := Lib.hid (show claimL 5 50 b ten s 7 now ttl = ((⟨⟨#[]⟩, ⟨#[]⟩, 0, 0, 0, false⟩ : Ls), e, b) from h1)
          have he2 : (e != 0) = true := by simp [he]
          have HRN1 := Lib.hid (fun w => rname_ok ten w HTS.out.1)
          have HRN2 := Lib.hid (fun w => rname_ok s w HTS.out.2)
          by_cases he1 : e = 1
          · subst he1
            have HAR := Lib.hid (claim_arg h1)
            clear h1 he hnx
            obtain ⟨a1, ha1⟩ : ∃ a1, nameB ten = a1 := ⟨_, rfl⟩
            obtain ⟨a2, ha2⟩ : ∃ a2, nameB s = a2 := ⟨_, rfl⟩
            simp only [ha1] at HRN1 HAR
            simp only [ha2] at HRN2 HAR
            clear ha1 ha2
            cases a1 with
            | false =>
              go_wp2_with (first | (go_at_call 25; (with_reducible refine (w_claim HLW.out ten s 7 now ttl HTS.out.1 HTS.out.2 HNX.out _ H2.out).mono ?_); rintro e u8 ⟨G8, rfl, h1, h2⟩; have HL8 := Lib.hid h1; clear h1 h2) | (go_at_call 31; (with_reducible refine (HRN1.out _).mono ?_); rintro e u9 ⟨rfl, hu⟩; rw [← hu]; clear hu))
              go_ret
              exact ⟨by first | rfl | simp, HL8.out.l.trans (((Below.refl _ _).alloc (Nat.le_refl _) _).mono HL8.out.l.size)⟩
            | true =>
              cases a2 with
              | false =>
                go_wp2_with (first | (go_at_call 25; (with_reducible refine (w_claim HLW.out ten s 7 now ttl HTS.out.1 HTS.out.2 HNX.out _ H2.out).mono ?_); rintro e u8 ⟨G8, rfl, h1, h2⟩; have HL8 := Lib.hid h1; clear h1 h2) | (go_at_call 31; (with_reducible refine (HRN1.out _).mono ?_); rintro e u9 ⟨rfl, hu⟩; rw [← hu]; clear hu) | (go_at_call 31; (with_reducible refine (HRN2.out _).mono ?_); rintro e u9 ⟨rfl, hu⟩; rw [← hu]; clear hu))
                go_ret
                exact ⟨by first | rfl | simp, HL8.out.l.trans (((Below.refl _ _).alloc (Nat.le_refl _) _).mono HL8.out.l.size)⟩
              | true =>
                have har := HAR.out
                unfold clkB timB at har
                by_cases k1 : now < 0
                · go_wp2_with (first | (go_at_call 25; (with_reducible refine (w_claim HLW.out ten s 7 now ttl HTS.out.1 HTS.out.2 HNX.out _ H2.out).mono ?_); rintro e u8 ⟨G8, rfl, h1, h2⟩; have HL8 := Lib.hid h1; clear h1 h2) | (go_at_call 31; (with_reducible refine (HRN1.out _).mono ?_); rintro e u9 ⟨rfl, hu⟩; rw [← hu]; clear hu) | (go_at_call 31; (with_reducible refine (HRN2.out _).mono ?_); rintro e u9 ⟨rfl, hu⟩; rw [← hu]; clear hu))
                  go_ret
                  exact ⟨by first | rfl | simp, HL8.out.l.trans (((Below.refl _ _).alloc (Nat.le_refl _) _).mono HL8.out.l.size)⟩
                · have k1b : decide (now < 0) = false := decide_eq_false k1
                  by_cases k2 : now > 1099511627776
                  · go_wp2_with (first | (go_at_call 25; (with_reducible refine (w_claim HLW.out ten s 7 now ttl HTS.out.1 HTS.out.2 HNX.out _ H2.out).mono ?_); rintro e u8 ⟨G8, rfl, h1, h2⟩; have HL8 := Lib.hid h1; clear h1 h2) | (go_at_call 31; (with_reducible refine (HRN1.out _).mono ?_); rintro e u9 ⟨rfl, hu⟩; rw [← hu]; clear hu) | (go_at_call 31; (with_reducible refine (HRN2.out _).mono ?_); rintro e u9 ⟨rfl, hu⟩; rw [← hu]; clear hu))
                    go_ret
                    exact ⟨by first | rfl | simp, HL8.out.l.trans (((Below.refl _ _).alloc (Nat.le_refl _) _).mono HL8.out.l.size)⟩
                  · have k2b : decide (now > 1099511627776) = false := decide_eq_false k2
                    have k2c : decide ((1099511627776 : Int) < now) = false := decide_eq_false (by omega)
                    by_cases k3 : ttl < 1
                    · go_wp2_with (first | (go_at_call 25; (with_reducible refine (w_claim HLW.out ten s 7 now ttl HTS.out.1 HTS.out.2 HNX.out _ H2.out).mono ?_); rintro e u8 ⟨G8, rfl, h1, h2⟩; have HL8 := Lib.hid h1; clear h1 h2) | (go_at_call 31; (with_reducible refine (HRN1.out _).mono ?_); rintro e u9 ⟨rfl, hu⟩; rw [← hu]; clear hu) | (go_at_call 31; (with_reducible refine (HRN2.out _).mono ?_); rintro e u9 ⟨rfl, hu⟩; rw [← hu]; clear hu))
                      go_ret
                      exact ⟨by first | rfl | simp, HL8.out.l.trans (((Below.refl _ _).alloc (Nat.le_refl _) _).mono HL8.out.l.size)⟩
                    · have k3b : decide (ttl < 1) = false := decide_eq_false k3
                      by_cases k4 : ttl > 1073741824
                      · go_wp2_with (first | (go_at_call 25; (with_reducible refine (w_claim HLW.out ten s 7 now ttl HTS.out.1 HTS.out.2 HNX.out _ H2.out).mono ?_); rintro e u8 ⟨G8, rfl, h1, h2⟩; have HL8 := Lib.hid h1; clear h1 h2) | (go_at_call 31; (with_reducible refine (HRN1.out _).mono ?_); rintro e u9 ⟨rfl, hu⟩; rw [← hu]; clear hu) | (go_at_call 31; (with_reducible refine (HRN2.out _).mono ?_); rintro e u9 ⟨rfl, hu⟩; rw [← hu]; clear hu))
                        go_ret
                        exact ⟨by first | rfl | simp, HL8.out.l.trans (((Below.refl _ _).alloc (Nat.le_refl _) _).mono HL8.out.l.size)⟩
                      · exfalso
                        rw [decide_eq_true (show 0 ≤ now by omega), decide_eq_true (show now ≤ 1099511627776 by omega), decide_eq_true (show 1 ≤ ttl by omega), decide_eq_true (show ttl ≤ 1073741824 by omega)] at har
                        cases har
          · have he3 : (e != 1) = true := by simp [he1]
            clear h1 he he1 hnx
            go_wp2_with (go_at_call 25; (with_reducible refine (w_claim HLW.out ten s 7 now ttl HTS.out.1 HTS.out.2 HNX.out _ H2.out).mono ?_); rintro e u8 ⟨G8, rfl, h1, h2⟩; have HL8 := Lib.hid h1; clear h1 h2)
            go_ret
            exact ⟨by first | rfl | simp, HL8.out.l.trans (((Below.refl _ _).alloc (Nat.le_refl _) _).mono HL8.out.l.size)⟩
        · have HG := Lib.hid hg
          obtain ⟨g1, g2, g3, g4, g5⟩ := grant_time (by decide) hg
          obtain ⟨N, rfl⟩ := Int.eq_ofNat_of_zero_le g1
          obtain ⟨D, rfl⟩ := Int.eq_ofNat_of_zero_le (show 0 ≤ ttl by omega)
          obtain ⟨Q, hQ⟩ : ∃ Q : Nat, min (D : Int) 50 = (Q : Int) := ⟨min D 50, by omega⟩
          obtain ⟨S, hS⟩ : ∃ S : Nat, (N : Int) + (Q : Int) = (S : Int) := ⟨N + Q, by omega⟩
          obtain ⟨T, hT⟩ : ∃ T : Nat, (N : Int) + (P : Int) = (T : Int) := ⟨N + P, by omega⟩
          have hx : x = ⟨s, ten, 7, nx, (S : Int), true⟩ := by rw [hg.1, hQ, hS, hnx]
          have HGH := Lib.hid (show holdL ⟨ptL x b.l, b.nx + 1⟩ s (T : Int) = if (T : Int) < (S : Int) then some x else none by rw [grant_hold HUP.out hg, hQ, hS])
          subst hx
          have H2 := Lib.hid h1
          have hw1 : IntKind.i64.wrap ((N : Int) + (P : Int)) = (T : Int) := (iwrap _ T hT (by omega)).1
          have hw2 : IntKind.i64.wrap ((N : Int) + (Q : Int)) = (S : Int) := (iwrap _ S hS (by omega)).1
          have hw3 : IntKind.i64.wrap (P : Int) = (P : Int) := (iwrap _ P rfl (by omega)).1
          clear h1 hg g1 g2 g3 g4 g5 hS hT
          go_upto_region 13 with (go_at_call 25; (with_reducible refine (w_claim HLW.out ten s 7 (N : Int) (D : Int) HTS.out.1 HTS.out.2 HNX.out _ H2.out).mono ?_); rintro e u8 ⟨G8, rfl, h1, h2⟩; have HL8 := Lib.hid h1; clear h1 h2)
          obtain ⟨q8, hq⟩ : ∃ q, u8.heap.size = q := ⟨_, rfl⟩
          obtain ⟨v8, hv⟩ : ∃ v, u8.alloc (.cells #[.string s, .string ten, .int .i64 7, .int .i64 nx, .int .i64 (S : Int), .bool true] 32) = v := ⟨_, rfl⟩
          have HLv8 := Lib.hid (show Lw W v8 G8 gb 5 50 ⟨ptL ⟨s, ten, 7, nx, (S : Int), true⟩ b.l, b.nx + 1⟩ by rw [← hv]; exact HL8.out.on ((Below.refl _ _).alloc (Nat.le_refl _) _))
          have HQ8 := Lib.hid (show Bz v8 G8 q8 32 #[.string s, .string ten, .int .i64 7, .int .i64 nx, .int .i64 (S : Int), .bool true] by rw [← hv, ← hq]; exact Bz.new HL8.out.hi _ _)
          try dsimp only
          rw [hv]
          try rw [hq]
          clear hv hq
          by_cases hlt : (T : Int) < (S : Int)
          · have H3 := Lib.hid (show (holdL ⟨ptL ⟨s, ten, 7, nx, (S : Int), true⟩ b.l, b.nx + 1⟩ s (T : Int)).getD zeroLs = ⟨s, ten, 7, nx, (S : Int), true⟩ by rw [HGH.out, if_pos hlt]; rfl)
            have H4 := Lib.hid (show (holdL ⟨ptL ⟨s, ten, 7, nx, (S : Int), true⟩ b.l, b.nx + 1⟩ s (T : Int)).isSome = true by rw [HGH.out, if_pos hlt]; rfl)
            have hlt2 : T < S := by omega
            go_upto_region 17 with (go_at_call 27; (with_reducible refine (w_holder HLv8.out s (T : Int) HTS.out.2 _ _ H3.out H4.out).mono ?_); rintro e u9 ⟨rfl, hb⟩; have HL9 := Lib.hid (HLv8.out.on hb); have HQ9 := Lib.hid (HQ8.out.on hb); clear hb)
            obtain ⟨q9, hq⟩ : ∃ q, u9.heap.size = q := ⟨_, rfl⟩
            obtain ⟨v9, hv⟩ : ∃ v, u9.alloc (.cells #[.string s, .string ten, .int .i64 7, .int .i64 nx, .int .i64 (S : Int), .bool true] 32) = v := ⟨_, rfl⟩
            have HLv9 := Lib.hid (show Lw W v9 G8 gb 5 50 ⟨ptL ⟨s, ten, 7, nx, (S : Int), true⟩ b.l, b.nx + 1⟩ by rw [← hv]; exact HL9.out.on ((Below.refl _ _).alloc (Nat.le_refl _) _))
            have HX9 := Lib.hid (show Bk v9 q8 32 #[.string s, .string ten, .int .i64 7, .int .i64 nx, .int .i64 (S : Int), .bool true] by rw [← hv]; exact (HQ9.out.alloc _).b)
            have HY9 := Lib.hid (show Bk v9 q9 32 #[.string s, .string ten, .int .i64 7, .int .i64 nx, .int .i64 (S : Int), .bool true] by rw [← hv, ← hq]; exact Bk.new _ _ _)
            try dsimp only
            rw [hv]
            try rw [hq]
            clear hv hq
            have x0 : v9.cell? ⟨q8, 0, none⟩ = some (.string s) := HX9.out.cell 0
            have x1 : v9.cell? ⟨q8, 1, none⟩ = some (.string ten) := HX9.out.cell 1
            have x2 : v9.cell? ⟨q8, 2, none⟩ = some (.int .i64 7) := HX9.out.cell 2
            have x3 : v9.cell? ⟨q8, 3, none⟩ = some (.int .i64 nx) := HX9.out.cell 3
            have x4 : v9.cell? ⟨q8, 4, none⟩ = some (.int .i64 (S : Int)) := HX9.out.cell 4
            have x5 : v9.cell? ⟨q8, 5, none⟩ = some (.bool true) := HX9.out.cell 5
            have y0 : v9.cell? ⟨q9, 0, none⟩ = some (.string s) := HY9.out.cell 0
            have y1 : v9.cell? ⟨q9, 1, none⟩ = some (.string ten) := HY9.out.cell 1
            have y2 : v9.cell? ⟨q9, 2, none⟩ = some (.int .i64 7) := HY9.out.cell 2
            have y3 : v9.cell? ⟨q9, 3, none⟩ = some (.int .i64 nx) := HY9.out.cell 3
            have y4 : v9.cell? ⟨q9, 4, none⟩ = some (.int .i64 (S : Int)) := HY9.out.cell 4
            have y5 : v9.cell? ⟨q9, 5, none⟩ = some (.bool true) := HY9.out.cell 5
            go_wp2_with (refine wpList_eql (by kernel_rfl) (.tmp 151) (.tmp 152) _ rfl ⟨s, ten, 7, nx, (S : Int), true⟩ ⟨s, ten, 7, nx, (S : Int), true⟩ rfl rfl ?_; rw [eqLs_same])
            all_goals (go_ret; exact ⟨by first | rfl | simp, HLv9.out.l⟩)
          · have H3 := Lib.hid (show (holdL ⟨ptL ⟨s, ten, 7, nx, (S : Int), true⟩ b.l, b.nx + 1⟩ s (T : Int)).getD zeroLs = ⟨⟨#[]⟩, ⟨#[]⟩, 0, 0, 0, false⟩ by rw [HGH.out, if_neg hlt]; rfl)
            have H4 := Lib.hid (show (holdL ⟨ptL ⟨s, ten, 7, nx, (S : Int), true⟩ b.l, b.nx + 1⟩ s (T : Int)).isSome = false by rw [HGH.out, if_neg hlt]; rfl)
            have hlt2 : ¬ T < S := by omega
            have hlt3 : decide ((T : Int) < (S : Int)) = false := decide_eq_false hlt
            have hlt4 : decide (T < S) = false := decide_eq_false hlt2
            go_upto_region 17 with (go_at_call 27; (with_reducible refine (w_holder HLv8.out s (T : Int) HTS.out.2 _ _ H3.out H4.out).mono ?_); rintro e u9 ⟨rfl, hb⟩; have HL9 := Lib.hid (HLv8.out.on hb); have HQ9 := Lib.hid (HQ8.out.on hb); clear hb)
            obtain ⟨v9, hv⟩ : ∃ v, u9.alloc (.cells #[.string ⟨#[]⟩, .string ⟨#[]⟩, .int .i64 0, .int .i64 0, .int .i64 0, .bool false] 32) = v := ⟨_, rfl⟩
            have HLv9 := Lib.hid (show Lw W v9 G8 gb 5 50 ⟨ptL ⟨s, ten, 7, nx, (S : Int), true⟩ b.l, b.nx + 1⟩ by rw [← hv]; exact HL9.out.on ((Below.refl _ _).alloc (Nat.le_refl _) _))
            have HX9 := Lib.hid (show Bk v9 q8 32 #[.string s, .string ten, .int .i64 7, .int .i64 nx, .int .i64 (S : Int), .bool true] by rw [← hv]; exact (HQ9.out.alloc _).b)
            try dsimp only
            rw [hv]
            clear hv
            have x0 : v9.cell? ⟨q8, 0, none⟩ = some (.string s) := HX9.out.cell 0
            have x1 : v9.cell? ⟨q8, 1, none⟩ = some (.string ten) := HX9.out.cell 1
            have x2 : v9.cell? ⟨q8, 2, none⟩ = some (.int .i64 7) := HX9.out.cell 2
            have x3 : v9.cell? ⟨q8, 3, none⟩ = some (.int .i64 nx) := HX9.out.cell 3
            have x4 : v9.cell? ⟨q8, 4, none⟩ = some (.int .i64 (S : Int)) := HX9.out.cell 4
            have x5 : v9.cell? ⟨q8, 5, none⟩ = some (.bool true) := HX9.out.cell 5
            go_wp2
            all_goals (go_ret; exact ⟨by first | rfl | simp, HLv9.out.l⟩)
end Go.Proofs.Ytpbobmiajjgekaa
