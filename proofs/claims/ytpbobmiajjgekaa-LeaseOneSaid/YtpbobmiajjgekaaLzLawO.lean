/- LeaseOne: a name is held by one at most: the walk. (Written by gen_lzone.py.) -/
import Derived.Test.YtpbobmiajjgekaaLzN
namespace Go.Proofs.Ytpbobmiajjgekaa
set_option linter.unusedVariables false
set_option maxRecDepth 100000
set_option linter.unusedSimpArgs false
open Go.RowKit

set_option maxRecDepth 100000 in
set_option maxHeartbeats 16000000 in
theorem walk_LeaseOne (A : Option Addr) (l : List Lo) (c : Nat) (ten s : ByteArray) (now ttl : Int) (W : World) (h : InL W A l c) (ht : ten.size ≤ 140737488355328) (hs : s.size ≤ 140737488355328) :
    Calls Try.prog 4 #[.slice A l.length c, .string ten, .string s, .int .i64 now, .int .i64 ttl] W fun e w' => e = .returned (.bool true) ∧ Below W.heap.size W w' := by
  have HI := Lib.hid h
  have HHD := Lib.hid (fun u => lzhead_ok u)
  have HNEW := Lib.hid (fun u (hb : Below W.heap.size W u) => w_lnew (W := W) (u := u) (g := 5) (most := 50) hb (by decide) (by decide))
  have HGR := Lib.hid (fun u (hb : Below W.heap.size W u) => lzgreat_ok A l c u (h.on hb))
  obtain ⟨gr, hgr⟩ : ∃ gr, grB l = gr := ⟨_, rfl⟩
  have HGB := Lib.hid hgr
  simp only [hgr] at HGR
  obtain ⟨n, hn⟩ : ∃ n, l.length = n := ⟨_, rfl⟩
  have HN := Lib.hid hn
  rw [hn] at HGR ⊢
  clear h hgr hn
  obtain ⟨t, ht0⟩ : ∃ t : Nat, ten.size + s.size = t := ⟨_, rfl⟩
  have hw : IntKind.i64.wrap ((ten.size : Int) + (s.size : Int)) = (t : Int) := (iwrap _ t (by omega) (by omega)).1
  have HTS := Lib.hid (And.intro ht hs)
  clear ht hs ht0
  by_cases hbig : t > 1000
  · have hb1 : (t : Int) > 1000 := by omega
    have hb2 : decide ((1000 : Int) < (t : Int)) = true := decide_eq_true (by omega)
    cases gr
    all_goals
      go_enter Try.func4, Try.ntmps4
      go_wp2_with (first | (go_at_call 10; (with_reducible refine (HHD.out _).mono ?_); rintro e u1 ⟨rfl, hb⟩; have HB1 := Lib.hid hb; clear hb) | (go_at_call 11; (with_reducible refine (HNEW.out _ HB1.out).mono ?_); rintro e u2 ⟨G, gb, rfl, h1, -, -⟩; have HL2 := Lib.hid h1; clear h1) | (go_at_call 13; (with_reducible refine (HGR.out _ HL2.out.l).mono ?_); rintro e u3 ⟨rfl, hb⟩; have HL3 := Lib.hid (HL2.out.on hb); clear hb))
      go_ret
      exact ⟨rfl, HL3.out.l⟩
  have hb1 : ¬ (t : Int) > 1000 := by omega
  have hb2 : decide ((1000 : Int) < (t : Int)) = false := decide_eq_false (by omega)
  clear hbig
  cases gr with
  | true =>
    go_enter Try.func4, Try.ntmps4
    go_wp2_with (first | (go_at_call 10; (with_reducible refine (HHD.out _).mono ?_); rintro e u1 ⟨rfl, hb⟩; have HB1 := Lib.hid hb; clear hb) | (go_at_call 11; (with_reducible refine (HNEW.out _ HB1.out).mono ?_); rintro e u2 ⟨G, gb, rfl, h1, -, -⟩; have HL2 := Lib.hid h1; clear h1) | (go_at_call 13; (with_reducible refine (HGR.out _ HL2.out.l).mono ?_); rintro e u3 ⟨rfl, hb⟩; have HL3 := Lib.hid (HL2.out.on hb); clear hb))
    go_ret
    exact ⟨rfl, HL3.out.l⟩
  | false =>
    have hfew : n ≤ 300 := by rw [← HN.out]; exact grB_few HGB.out
    go_enter Try.func4, Try.ntmps4
    go_wp2_with (first | (go_at_call 10; (with_reducible refine (HHD.out _).mono ?_); rintro e u1 ⟨rfl, hb⟩; have HB1 := Lib.hid hb; clear hb) | (go_at_call 11; (with_reducible refine (HNEW.out _ HB1.out).mono ?_); rintro e u2 ⟨G, gb, rfl, h1, -, -⟩; have HL2 := Lib.hid h1; clear h1) | (go_at_call 13; (with_reducible refine (HGR.out _ HL2.out.l).mono ?_); rintro e u3 ⟨rfl, hb⟩; have HL3 := Lib.hid (HL2.out.on hb); clear hb))
    clear hw
    go_loopw [13] (fun v13 wr => ∃ (i : Nat) (G : List Nat) (b : Bo), i ≤ n ∧ v13 = .int .i64 (i : Int) ∧ Hid (Lw W wr G gb 5 50 b) ∧ Hid (b.nx ≤ (i : Int) + 1)) (fun v13 _ => n - (intOf v13).toNat)
    case atStart => exact ⟨0, G, ⟨[], 1⟩, by omega, rfl, HL3, Lib.hid (by decide)⟩
    case round =>
      obtain ⟨i, G1, b, hi, rfl, HL, HNI⟩ := hrel
      by_cases hi1 : i < n
      · have hi2 : (i : Int) < (n : Int) := by omega
        have HNX := Lib.hid (show b.nx ≤ 1000000 by have := HNI.out; omega)
        obtain ⟨bx, o, ox, rfl, hx, hsm, hc⟩ := HI.out.at7 i (by rw [HN.out]; exact hi1)
        have HC := Lib.hid hc
        have HSM := Lib.hid hsm
        clear hx hsm hc
        obtain ⟨ow, ot, on, oc, oe, oo, ol⟩ := ox
        dsimp only at HC
        obtain ⟨d0, d1, d2, d3, d4, d5, d6⟩ := HC.out wr HL.out.l
        obtain ⟨⟨⟨xn, xt, xc, xe, xu, xh⟩, er, b2⟩, hR⟩ : ∃ R, doL 5 50 b ⟨ow, ot, on, oc, oe, oo, ol⟩ = R := ⟨_, rfl⟩
        have HR := Lib.hid hR
        clear hR
        have HNN := Lib.hid (show b2.nx ≤ ((i + 1 : Nat) : Int) + 1 by have h1 := nx_step HL.out.ok HR.out; have h2 := HNI.out; omega)
        go_wp2_with (go_at_call 30; (with_reducible refine (w_does HL.out ⟨ow, ot, on, oc, oe, oo, ol⟩ HSM.out HNX.out _ HR.out).mono ?_); rintro e u4 ⟨G', rfl, h1, h2⟩; have HL4 := Lib.hid h1; have HS4 := Lib.hid h2; clear h1 h2)
        go_roundw
        case rel => exact ⟨i + 1, G', b2, by omega, by go_num, HL4, HNN⟩
        case measure => simp [intOf]; omega
      · have hi2 : ¬ (i : Int) < (n : Int) := by omega
        have HNX := Lib.hid (show b.nx ≤ 1000000 by have := HNI.out; omega)
        clear hi1 hi
        obtain ⟨m, hm⟩ : ∃ m, b.l.length = m := ⟨_, rfl⟩
        have HM := Lib.hid hm
        have hm64 : m ≤ 64 := by rw [← hm]; exact HL.out.ok.few
        go_upto_region 10 with (go_at_call 29; (with_reducible refine (w_all HL.out m HM.out).mono ?_); rintro e u5 ⟨A5, c5, rfl, h1, h2, hb⟩; have HA5 := Lib.hid h1; have HF5 := Lib.hid h2; have HL5 := Lib.hid (HL.out.on hb); clear h1 h2 hb)
        clear hm
        go_wp2_with fail
        go_loopw [15] (fun v15 wr => ∃ k : Nat, (k = 0 ∨ k < m) ∧ v15 = .int .i64 ((k + 1 : Nat) : Int) ∧ Hid (Below u5.heap.size u5 wr)) (fun v15 _ => m + 1 - (intOf v15).toNat)
        case atStart => exact ⟨0, .inl rfl, rfl, Lib.hid (Below.refl _ _)⟩
        case round =>
          obtain ⟨k, hk, rfl, HB6⟩ := hrel
          obtain ⟨j, hj⟩ : ∃ j, k + 1 = j := ⟨_, rfl⟩
          have HJ := Lib.hid hj
          rw [hj]
          by_cases hj1 : j < m
          · have hj2 : (j : Int) < (m : Int) := by omega
            have hk2 : (k : Int) < (m : Int) := by omega
            have hj3 : IntKind.i64.wrap ((j : Int) - 1) = (k : Int) := (iwrap _ k (by omega) (by omega)).1
            obtain ⟨bx, o, x, rfl, hx, hcx⟩ := row6 HA5.out.rw_ k (by rw [HM.out]; omega)
            obtain ⟨bx', o', y, e1, hy, hcy⟩ := row6 HA5.out.rw_ j (by rw [HM.out]; omega)
            injection e1 with e1
            injection e1 with e1 e2 e3
            subst e1; subst e2
            have HLT := Lib.hid (show Op.bytesLess x.name.toList y.name.toList = true by
              have := take_lt HL.out.ok.up hy x (List.mem_of_getElem? (i := k) (by rw [List.getElem?_take_of_lt (show k < j by omega)]; exact hx))
              exact this)
            obtain ⟨x0, _, _, _, _, _⟩ := hcx wr HB6.out
            obtain ⟨y0, _, _, _, _, _⟩ := hcy wr HB6.out
            obtain ⟨xn, hxn⟩ : ∃ xn, x.name = xn := ⟨_, rfl⟩
            obtain ⟨yn, hyn⟩ : ∃ yn, y.name = yn := ⟨_, rfl⟩
            rw [hxn] at x0 HLT
            rw [hyn] at y0 HLT
            have hlt := HLT.out
            clear hx hy hcx hcy hj hk e3 hxn hyn
            go_wp2_with fail
            go_quiet (fail)
            go_wp2_with fail
            go_roundw
            case rel => exact ⟨j, .inr hj1, by go_num, Lib.hid (HB6.out.trans ((below_dn _).mono HB6.out.size))⟩
            case measure => simp [intOf]; omega
          · have hj2 : ¬ (j : Int) < (m : Int) := by omega
            have HL6 := Lib.hid (HL5.out.on HB6.out)
            have HA6 := Lib.hid (HA5.out.step (Sp.of (Ke.of HB6.out).nil))
            clear hj hk
            rcases one_cases (g := 5) (most := 50) (by decide) HL.out.ok.up ten s 99 now ttl with ⟨x, e, h1, he, h2⟩ | ⟨x, h1, h2, h3, h4, h5⟩ | ⟨e, h1, he, h2⟩
            · have H1 := Lib.hid (And.intro (show (holdL b s now).getD zeroLs = x by rw [h1]; rfl) (show (holdL b s now).isSome = true by rw [h1]; rfl))
              have H2 := Lib.hid (show claimL 5 50 b ten s 99 now ttl = ((⟨⟨#[]⟩, ⟨#[]⟩, 0, 0, 0, false⟩ : Ls), e, b) from h2)
              have he1 : (e == 0) = false := by simp [he]
              have he2 : (e != 0) = true := by simp [he]
              clear h1 h2 he
              obtain ⟨xn, xt, xc, xe, xu, xh⟩ := x
              go_upto_region 16 with (go_at_call 27; (with_reducible refine (w_holder HL6.out s now HTS.out.2 _ _ H1.out.1 H1.out.2).mono ?_); rintro e u7 ⟨rfl, hb⟩; have HL7 := Lib.hid (HL6.out.on hb); have HA7 := Lib.hid (HA6.out.step (Sp.of (Ke.of hb).nil)); clear hb)
              obtain ⟨q7, hq⟩ : ∃ q, u7.heap.size = q := ⟨_, rfl⟩
              obtain ⟨v7, hv⟩ : ∃ v, u7.alloc (.cells #[.string xn, .string xt, .int .i64 xc, .int .i64 xe, .int .i64 xu, .bool xh] 32) = v := ⟨_, rfl⟩
              have HLv7 := Lib.hid (show Lw W v7 G1 gb 5 50 b by rw [← hv]; exact HL7.out.on ((Below.refl _ _).alloc (Nat.le_refl _) _))
              have HQ7 := Lib.hid (show Bz v7 G1 q7 32 #[.string xn, .string xt, .int .i64 xc, .int .i64 xe, .int .i64 xu, .bool xh] by rw [← hv, ← hq]; exact Bz.new HL7.out.hi _ _)
              have HAv7 := Lib.hid (show Rv v7 G1 A5 b.l by rw [← hv]; exact HA7.out.step (Sp.of (Ke.of ((Below.refl _ _).alloc (Nat.le_refl _) _)).nil))
              try dsimp only
              rw [hv]
              try rw [hq]
              clear hv hq
              go_upto_region 17 with (go_at_call 25; (with_reducible refine (w_claim HLv7.out ten s 99 now ttl HTS.out.1 HTS.out.2 HNX.out _ H2.out).mono ?_); rintro e u8 ⟨G8, rfl, h1, h2⟩; have HL8 := Lib.hid h1; have HS8 := Lib.hid h2; clear h1 h2)
              obtain ⟨q8, hq⟩ : ∃ q, u8.heap.size = q := ⟨_, rfl⟩
              obtain ⟨v8, hv⟩ : ∃ v, u8.alloc (.cells #[.string ⟨#[]⟩, .string ⟨#[]⟩, .int .i64 0, .int .i64 0, .int .i64 0, .bool false] 32) = v := ⟨_, rfl⟩
              have HLv8 := Lib.hid (show Lw W v8 G8 gb 5 50 b by rw [← hv]; exact HL8.out.on ((Below.refl _ _).alloc (Nat.le_refl _) _))
              have HQ8 := Lib.hid (show Bz v8 G8 q8 32 #[.string ⟨#[]⟩, .string ⟨#[]⟩, .int .i64 0, .int .i64 0, .int .i64 0, .bool false] by rw [← hv, ← hq]; exact Bz.new HL8.out.hi _ _)
              have HAv8 := Lib.hid (show Rv v8 G8 A5 b.l by rw [← hv]; exact (HAv7.out.step HS8.out).step (Sp.of (Ke.of ((Below.refl _ _).alloc (Nat.le_refl _) _)).nil))
              have HQ7b := Lib.hid (show Bz v8 G8 q7 32 #[.string xn, .string xt, .int .i64 xc, .int .i64 xe, .int .i64 xu, .bool xh] by rw [← hv]; exact (HQ7.out.step HS8.out).alloc _)
              try dsimp only
              rw [hv]
              try rw [hq]
              clear hv hq
              go_upto_region 18 with (go_at_call 27; (with_reducible refine (w_holder HLv8.out s now HTS.out.2 _ _ H1.out.1 H1.out.2).mono ?_); rintro e u9 ⟨rfl, hb⟩; have HL9 := Lib.hid (HLv8.out.on hb); have HA9 := Lib.hid (HAv8.out.step (Sp.of (Ke.of hb).nil)); have HQ7c := Lib.hid (HQ7b.out.step (Sp.of (Ke.of hb).nil)); clear hb)
              obtain ⟨q9, hq⟩ : ∃ q, u9.heap.size = q := ⟨_, rfl⟩
              obtain ⟨v9, hv⟩ : ∃ v, u9.alloc (.cells #[.string xn, .string xt, .int .i64 xc, .int .i64 xe, .int .i64 xu, .bool xh] 32) = v := ⟨_, rfl⟩
              have HLv9 := Lib.hid (show Lw W v9 G8 gb 5 50 b by rw [← hv]; exact HL9.out.on ((Below.refl _ _).alloc (Nat.le_refl _) _))
              have HQ9 := Lib.hid (show Bz v9 G8 q9 32 #[.string xn, .string xt, .int .i64 xc, .int .i64 xe, .int .i64 xu, .bool xh] by rw [← hv, ← hq]; exact Bz.new HL9.out.hi _ _)
              have HAv9 := Lib.hid (show Rv v9 G8 A5 b.l by rw [← hv]; exact HA9.out.step (Sp.of (Ke.of ((Below.refl _ _).alloc (Nat.le_refl _) _)).nil))
              have HQ7d := Lib.hid (show Bz v9 G8 q7 32 #[.string xn, .string xt, .int .i64 xc, .int .i64 xe, .int .i64 xu, .bool xh] by rw [← hv]; exact HQ7c.out.alloc _)
              try dsimp only
              rw [hv]
              try rw [hq]
              clear hv hq
              have x0 : v9.cell? ⟨q7, 0, none⟩ = some (.string xn) := HQ7d.out.b.cell 0
              have x1 : v9.cell? ⟨q7, 1, none⟩ = some (.string xt) := HQ7d.out.b.cell 1
              have x2 : v9.cell? ⟨q7, 2, none⟩ = some (.int .i64 xc) := HQ7d.out.b.cell 2
              have x3 : v9.cell? ⟨q7, 3, none⟩ = some (.int .i64 xe) := HQ7d.out.b.cell 3
              have x4 : v9.cell? ⟨q7, 4, none⟩ = some (.int .i64 xu) := HQ7d.out.b.cell 4
              have x5 : v9.cell? ⟨q7, 5, none⟩ = some (.bool xh) := HQ7d.out.b.cell 5
              have y0 : v9.cell? ⟨q9, 0, none⟩ = some (.string xn) := HQ9.out.b.cell 0
              have y1 : v9.cell? ⟨q9, 1, none⟩ = some (.string xt) := HQ9.out.b.cell 1
              have y2 : v9.cell? ⟨q9, 2, none⟩ = some (.int .i64 xc) := HQ9.out.b.cell 2
              have y3 : v9.cell? ⟨q9, 3, none⟩ = some (.int .i64 xe) := HQ9.out.b.cell 3
              have y4 : v9.cell? ⟨q9, 4, none⟩ = some (.int .i64 xu) := HQ9.out.b.cell 4
              have y5 : v9.cell? ⟨q9, 5, none⟩ = some (.bool xh) := HQ9.out.b.cell 5
              go_upto_region 20 with (first
                | (go_at_call 29; (with_reducible refine (w_all HLv9.out m HM.out).mono ?_); rintro e ua ⟨Aa, ca, rfl, h1, h2, hb⟩; have HAa := Lib.hid h1; have HLa := Lib.hid (HLv9.out.on hb); have HAo := Lib.hid (HAv9.out.step (Sp.of (Ke.of hb).nil)); clear h1 h2 hb)
                | (go_at_call 20; (with_reducible refine (rsame_yes Aa _ ca _ b.l ua m HM.out HAa.out.rw_ HAo.out.rw_ (by omega)).mono ?_); rintro e ub ⟨rfl, hb⟩; have HLb := Lib.hid (HLa.out.on hb); have HAb := Lib.hid (HAo.out.step (Sp.of (Ke.of hb).nil)); clear hb)
                | (refine wpList_nel (by kernel_rfl) (.tmp 103) (.tmp 104) _ rfl ⟨xn, xt, xc, xe, xu, xh⟩ ⟨xn, xt, xc, xe, xu, xh⟩ rfl rfl ?_; rw [eqLs_same]))
              go_wp2_with (first
                | (go_at_call 29; (with_reducible refine (w_all HLb.out m HM.out).mono ?_); rintro e uc ⟨Ac, cc, rfl, h1, h2, hb⟩; have HAc := Lib.hid h1; have HLc := Lib.hid (HLb.out.on hb); have HAd := Lib.hid (HAb.out.step (Sp.of (Ke.of hb).nil)); clear h1 h2 hb)
                | (go_at_call 20; (with_reducible refine (rsame_yes Ac _ cc _ b.l uc m HM.out HAc.out.rw_ HAd.out.rw_ (by omega)).mono ?_); rintro e ud ⟨rfl, hb⟩; have HLd := Lib.hid (HLc.out.on hb); clear hb))
              go_ret
              exact ⟨rfl, HLd.out.l⟩
            · have H1 := Lib.hid (And.intro (show (holdL b s now).getD zeroLs = ⟨⟨#[]⟩, ⟨#[]⟩, 0, 0, 0, false⟩ by rw [h1]; rfl) (show (holdL b s now).isSome = false by rw [h1]; rfl))
              have H2 := Lib.hid h2
              obtain ⟨xn, xt, xc, xe, xu, xh⟩ := x
              obtain rfl : xt = ten := h4
              obtain rfl : xc = 99 := h5
              have H3 := Lib.hid (And.intro (show (holdL ⟨ptL ⟨xn, xt, 99, xe, xu, xh⟩ b.l, b.nx + 1⟩ s now).getD zeroLs = ⟨xn, xt, 99, xe, xu, xh⟩ by rw [h3]; rfl) (show (holdL ⟨ptL ⟨xn, xt, 99, xe, xu, xh⟩ b.l, b.nx + 1⟩ s now).isSome = true by rw [h3]; rfl))
              clear h1 h2 h3
              go_upto_region 16 with (go_at_call 27; (with_reducible refine (w_holder HL6.out s now HTS.out.2 _ _ H1.out.1 H1.out.2).mono ?_); rintro e u7 ⟨rfl, hb⟩; have HL7 := Lib.hid (HL6.out.on hb); clear hb)
              obtain ⟨q7, hq⟩ : ∃ q, u7.heap.size = q := ⟨_, rfl⟩
              obtain ⟨v7, hv⟩ : ∃ v, u7.alloc (.cells #[.string ⟨#[]⟩, .string ⟨#[]⟩, .int .i64 0, .int .i64 0, .int .i64 0, .bool false] 32) = v := ⟨_, rfl⟩
              have HLv7 := Lib.hid (show Lw W v7 G1 gb 5 50 b by rw [← hv]; exact HL7.out.on ((Below.refl _ _).alloc (Nat.le_refl _) _))
              have HQ7 := Lib.hid (show Bz v7 G1 q7 32 #[.string ⟨#[]⟩, .string ⟨#[]⟩, .int .i64 0, .int .i64 0, .int .i64 0, .bool false] by rw [← hv, ← hq]; exact Bz.new HL7.out.hi _ _)
              try dsimp only
              rw [hv]
              try rw [hq]
              clear hv hq
              go_upto_region 17 with (go_at_call 25; (with_reducible refine (w_claim HLv7.out xt s 99 now ttl HTS.out.1 HTS.out.2 HNX.out _ H2.out).mono ?_); rintro e u8 ⟨G8, rfl, h1, h2⟩; have HL8 := Lib.hid h1; clear h1 h2)
              obtain ⟨q8, hq⟩ : ∃ q, u8.heap.size = q := ⟨_, rfl⟩
              obtain ⟨v8, hv⟩ : ∃ v, u8.alloc (.cells #[.string xn, .string xt, .int .i64 99, .int .i64 xe, .int .i64 xu, .bool xh] 32) = v := ⟨_, rfl⟩
              have HLv8 := Lib.hid (show Lw W v8 G8 gb 5 50 ⟨ptL ⟨xn, xt, 99, xe, xu, xh⟩ b.l, b.nx + 1⟩ by rw [← hv]; exact HL8.out.on ((Below.refl _ _).alloc (Nat.le_refl _) _))
              have HQ8 := Lib.hid (show Bz v8 G8 q8 32 #[.string xn, .string xt, .int .i64 99, .int .i64 xe, .int .i64 xu, .bool xh] by rw [← hv, ← hq]; exact Bz.new HL8.out.hi _ _)
              try dsimp only
              rw [hv]
              try rw [hq]
              clear hv hq
              go_upto_region 18 with (go_at_call 27; (with_reducible refine (w_holder HLv8.out s now HTS.out.2 _ _ H3.out.1 H3.out.2).mono ?_); rintro e u9 ⟨rfl, hb⟩; have HL9 := Lib.hid (HLv8.out.on hb); clear hb)
              obtain ⟨q9, hq⟩ : ∃ q, u9.heap.size = q := ⟨_, rfl⟩
              obtain ⟨v9, hv⟩ : ∃ v, u9.alloc (.cells #[.string xn, .string xt, .int .i64 99, .int .i64 xe, .int .i64 xu, .bool xh] 32) = v := ⟨_, rfl⟩
              have HLv9 := Lib.hid (show Lw W v9 G8 gb 5 50 ⟨ptL ⟨xn, xt, 99, xe, xu, xh⟩ b.l, b.nx + 1⟩ by rw [← hv]; exact HL9.out.on ((Below.refl _ _).alloc (Nat.le_refl _) _))
              have HQ9 := Lib.hid (show Bz v9 G8 q9 32 #[.string xn, .string xt, .int .i64 99, .int .i64 xe, .int .i64 xu, .bool xh] by rw [← hv, ← hq]; exact Bz.new HL9.out.hi _ _)
              try dsimp only
              rw [hv]
              try rw [hq]
              clear hv hq
              have y0 : v9.cell? ⟨q9, 0, none⟩ = some (.string xn) := HQ9.out.b.cell 0
              have y1 : v9.cell? ⟨q9, 1, none⟩ = some (.string xt) := HQ9.out.b.cell 1
              have y2 : v9.cell? ⟨q9, 2, none⟩ = some (.int .i64 99) := HQ9.out.b.cell 2
              have y3 : v9.cell? ⟨q9, 3, none⟩ = some (.int .i64 xe) := HQ9.out.b.cell 3
              have y4 : v9.cell? ⟨q9, 4, none⟩ = some (.int .i64 xu) := HQ9.out.b.cell 4
              have y5 : v9.cell? ⟨q9, 5, none⟩ = some (.bool xh) := HQ9.out.b.cell 5
              go_wp2_with fail
              go_ret
              exact ⟨by first | rfl | simp, HLv9.out.l⟩
            · have H1 := Lib.hid (And.intro (show (holdL b s now).getD zeroLs = ⟨⟨#[]⟩, ⟨#[]⟩, 0, 0, 0, false⟩ by rw [h1]; rfl) (show (holdL b s now).isSome = false by rw [h1]; rfl))
              have H2 := Lib.hid (show claimL 5 50 b ten s 99 now ttl = ((⟨⟨#[]⟩, ⟨#[]⟩, 0, 0, 0, false⟩ : Ls), e, b) from h2)
              have he1 : (e == 0) = false := by simp [he]
              have he2 : (e != 0) = true := by simp [he]
              clear h1 h2 he
              go_upto_region 16 with (go_at_call 27; (with_reducible refine (w_holder HL6.out s now HTS.out.2 _ _ H1.out.1 H1.out.2).mono ?_); rintro e u7 ⟨rfl, hb⟩; have HL7 := Lib.hid (HL6.out.on hb); have HA7 := Lib.hid (HA6.out.step (Sp.of (Ke.of hb).nil)); clear hb)
              obtain ⟨q7, hq⟩ : ∃ q, u7.heap.size = q := ⟨_, rfl⟩
              obtain ⟨v7, hv⟩ : ∃ v, u7.alloc (.cells #[.string ⟨#[]⟩, .string ⟨#[]⟩, .int .i64 0, .int .i64 0, .int .i64 0, .bool false] 32) = v := ⟨_, rfl⟩
              have HLv7 := Lib.hid (show Lw W v7 G1 gb 5 50 b by rw [← hv]; exact HL7.out.on ((Below.refl _ _).alloc (Nat.le_refl _) _))
              have HQ7 := Lib.hid (show Bz v7 G1 q7 32 #[.string ⟨#[]⟩, .string ⟨#[]⟩, .int .i64 0, .int .i64 0, .int .i64 0, .bool false] by rw [← hv, ← hq]; exact Bz.new HL7.out.hi _ _)
              have HAv7 := Lib.hid (show Rv v7 G1 A5 b.l by rw [← hv]; exact HA7.out.step (Sp.of (Ke.of ((Below.refl _ _).alloc (Nat.le_refl _) _)).nil))
              try dsimp only
              rw [hv]
              try rw [hq]
              clear hv hq
              go_upto_region 17 with (go_at_call 25; (with_reducible refine (w_claim HLv7.out ten s 99 now ttl HTS.out.1 HTS.out.2 HNX.out _ H2.out).mono ?_); rintro e u8 ⟨G8, rfl, h1, h2⟩; have HL8 := Lib.hid h1; have HS8 := Lib.hid h2; clear h1 h2)
              obtain ⟨q8, hq⟩ : ∃ q, u8.heap.size = q := ⟨_, rfl⟩
              obtain ⟨v8, hv⟩ : ∃ v, u8.alloc (.cells #[.string ⟨#[]⟩, .string ⟨#[]⟩, .int .i64 0, .int .i64 0, .int .i64 0, .bool false] 32) = v := ⟨_, rfl⟩
              have HLv8 := Lib.hid (show Lw W v8 G8 gb 5 50 b by rw [← hv]; exact HL8.out.on ((Below.refl _ _).alloc (Nat.le_refl _) _))
              have HQ8 := Lib.hid (show Bz v8 G8 q8 32 #[.string ⟨#[]⟩, .string ⟨#[]⟩, .int .i64 0, .int .i64 0, .int .i64 0, .bool false] by rw [← hv, ← hq]; exact Bz.new HL8.out.hi _ _)
              have HAv8 := Lib.hid (show Rv v8 G8 A5 b.l by rw [← hv]; exact (HAv7.out.step HS8.out).step (Sp.of (Ke.of ((Below.refl _ _).alloc (Nat.le_refl _) _)).nil))
              try dsimp only
              rw [hv]
              try rw [hq]
              clear hv hq
              go_upto_region 18 with (go_at_call 27; (with_reducible refine (w_holder HLv8.out s now HTS.out.2 _ _ H1.out.1 H1.out.2).mono ?_); rintro e u9 ⟨rfl, hb⟩; have HL9 := Lib.hid (HLv8.out.on hb); have HA9 := Lib.hid (HAv8.out.step (Sp.of (Ke.of hb).nil)); clear hb)
              obtain ⟨q9, hq⟩ : ∃ q, u9.heap.size = q := ⟨_, rfl⟩
              obtain ⟨v9, hv⟩ : ∃ v, u9.alloc (.cells #[.string ⟨#[]⟩, .string ⟨#[]⟩, .int .i64 0, .int .i64 0, .int .i64 0, .bool false] 32) = v := ⟨_, rfl⟩
              have HLv9 := Lib.hid (show Lw W v9 G8 gb 5 50 b by rw [← hv]; exact HL9.out.on ((Below.refl _ _).alloc (Nat.le_refl _) _))
              have HQ9 := Lib.hid (show Bz v9 G8 q9 32 #[.string ⟨#[]⟩, .string ⟨#[]⟩, .int .i64 0, .int .i64 0, .int .i64 0, .bool false] by rw [← hv, ← hq]; exact Bz.new HL9.out.hi _ _)
              have HAv9 := Lib.hid (show Rv v9 G8 A5 b.l by rw [← hv]; exact HA9.out.step (Sp.of (Ke.of ((Below.refl _ _).alloc (Nat.le_refl _) _)).nil))
              try dsimp only
              rw [hv]
              try rw [hq]
              clear hv hq
              go_wp2_with (first
                | (go_at_call 29; (with_reducible refine (w_all HLv9.out m HM.out).mono ?_); rintro e ua ⟨Aa, ca, rfl, h1, h2, hb⟩; have HAa := Lib.hid h1; have HLa := Lib.hid (HLv9.out.on hb); have HAo := Lib.hid (HAv9.out.step (Sp.of (Ke.of hb).nil)); clear h1 h2 hb)
                | (go_at_call 20; (with_reducible refine (rsame_yes Aa _ ca _ b.l ua m HM.out HAa.out.rw_ HAo.out.rw_ (by omega)).mono ?_); rintro e ub ⟨rfl, hb⟩; have HLb := Lib.hid (HLa.out.on hb); clear hb))
              go_ret
              exact ⟨rfl, HLb.out.l⟩
end Go.Proofs.Ytpbobmiajjgekaa
