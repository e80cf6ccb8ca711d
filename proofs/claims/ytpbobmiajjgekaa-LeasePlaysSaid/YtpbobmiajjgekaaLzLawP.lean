/- LeasePlays: the book is the document's own: the walk. (Written by gen_lzpl.py.) -/
import Derived.Test.YtpbobmiajjgekaaLzN
import Derived.Test.YtpbobmiajjgekaaLzP
namespace Go.Proofs.Ytpbobmiajjgekaa
set_option linter.unusedVariables false
set_option maxRecDepth 100000
set_option linter.unusedSimpArgs false
open Go.RowKit

theorem leave_few (g : Int) (b : Bo) (conn now : Int) : (leaveL g b conn now).1.length ≤ b.l.length := by
  unfold leaveL
  split
  · exact Nat.zero_le _
  · exact List.length_filter_le _ _
theorem lapse_few (g : Int) (b : Bo) (now : Int) : (lapseL g b now).1.length ≤ b.l.length := by
  unfold lapseL
  split
  · exact Nat.zero_le _
  · exact List.length_filter_le _ _
set_option maxRecDepth 100000 in
set_option maxHeartbeats 16000000 in
theorem walk_LeasePlays (g most : Int) (A : Option Addr) (l : List Lo) (c : Nat) (W : World) (h : InL W A l c) :
    Calls Try.prog 3 #[.int .i64 g, .int .i64 most, .slice A l.length c] W fun e w' => e = .returned (.bool true) ∧ Below W.heap.size W w' := by
  have HI := Lib.hid h
  have HHD := Lib.hid (fun u => lzhead_ok u)
  have HGR := Lib.hid (fun u (hb : Below W.heap.size W u) => lzgreat_ok A l c u (h.on hb))
  obtain ⟨gr, hgr⟩ : ∃ gr, grB l = gr := ⟨_, rfl⟩
  have HGB := Lib.hid hgr
  simp only [hgr] at HGR
  obtain ⟨n, hn⟩ : ∃ n, l.length = n := ⟨_, rfl⟩
  have HN := Lib.hid hn
  rw [hn] at HGR ⊢
  clear h hgr hn
  have arm : True := trivial
  cases hok : (timB g && timB most) with
  | false =>
    have HN1 := Lib.hid (fun u => w_lnew_no (g := g) (most := most) u hok)
    have HN2 := Lib.hid (fun u => r_new_no u g most hok)
    clear hok
    go_enter Try.func3, Try.ntmps3
    go_wp2_with (first | (go_at_call 10; (with_reducible refine (HHD.out _).mono ?_); rintro e u1 ⟨rfl, hb⟩; have HB1 := Lib.hid hb; clear hb) | (go_at_call 11; (with_reducible refine (HN1.out _).mono ?_); rintro e u2 ⟨rfl, hb⟩; have HB2 := Lib.hid (HB1.out.trans (hb.mono HB1.out.size)); clear hb) | (go_at_call 12; (with_reducible refine (HN2.out _).mono ?_); rintro e u3 ⟨rfl, hb⟩; have HB3 := Lib.hid (HB2.out.trans (hb.mono HB2.out.size)); clear hb))
    go_ret
    exact ⟨by first | rfl | simp, HB3.out⟩
  | true =>
    have HNEW := Lib.hid (fun u (hb : Below W.heap.size W u) => w_lnew (W := W) (u := u) (g := g) (most := most) hb (by rw [Bool.and_eq_true] at hok; exact hok.1) (by rw [Bool.and_eq_true] at hok; exact hok.2))
    have HTM := Lib.hid (show timB g = true ∧ timB most = true by rw [Bool.and_eq_true] at hok; exact hok)
    clear hok
    cases gr with
    | true =>
      go_enter Try.func3, Try.ntmps3
      go_wp2_with (first | (go_at_call 10; (with_reducible refine (HHD.out _).mono ?_); rintro e u1 ⟨rfl, hb⟩; have HB1 := Lib.hid hb; clear hb) | (go_at_call 11; (with_reducible refine (HNEW.out _ HB1.out).mono ?_); rintro e u2 ⟨G, gb, rfl, h1, -, -⟩; have HL2 := Lib.hid h1; clear h1) | (go_at_call 12; (with_reducible refine (r_new HL2.out HTM.out.1 HTM.out.2).mono ?_); rintro e u2b ⟨bb, T0, rfl, h1⟩; have HP2 := Lib.hid h1; clear h1) | (go_at_call 13; (with_reducible refine (HGR.out _ HP2.out.l).mono ?_); rintro e u3 ⟨rfl, hb⟩; have HP3 := Lib.hid (HP2.out.on hb); clear hb))
      go_ret
      exact ⟨by first | rfl | simp, HP3.out.l⟩
    | false =>
      have hfew : n ≤ 300 := by rw [← HN.out]; exact grB_few HGB.out
      go_enter Try.func3, Try.ntmps3
      go_wp2_with (first | (go_at_call 10; (with_reducible refine (HHD.out _).mono ?_); rintro e u1 ⟨rfl, hb⟩; have HB1 := Lib.hid hb; clear hb) | (go_at_call 11; (with_reducible refine (HNEW.out _ HB1.out).mono ?_); rintro e u2 ⟨G, gb, rfl, h1, -, -⟩; have HL2 := Lib.hid h1; clear h1) | (go_at_call 12; (with_reducible refine (r_new HL2.out HTM.out.1 HTM.out.2).mono ?_); rintro e u2b ⟨bb, T0, rfl, h1⟩; have HP2 := Lib.hid h1; clear h1) | (go_at_call 13; (with_reducible refine (HGR.out _ HP2.out.l).mono ?_); rintro e u3 ⟨rfl, hb⟩; have HP3 := Lib.hid (HP2.out.on hb); clear hb))
      go_loopw [10] (fun v10 wr => ∃ (i : Nat) (T : List Nat) (b : Bo), i ≤ n ∧ v10 = .int .i64 (i : Int) ∧ Hid (Pz W wr T gb bb g most b b) ∧ Hid (b.nx ≤ (i : Int) + 1)) (fun v10 _ => n - (intOf v10).toNat)
      case atStart => exact ⟨0, _, ⟨[], 1⟩, by omega, rfl, HP3, Lib.hid (by decide)⟩
      case round =>
        obtain ⟨i, T, b, hi, rfl, HP, HNI⟩ := hrel
        by_cases hi1 : i < n
        · have hi2 : (i : Int) < (n : Int) := by omega
          have HNX := Lib.hid (show b.nx ≤ 1000000 by have := HNI.out; omega)
          have HGK := Lib.hid HP.out.ok
          obtain ⟨bx, o, ox, rfl, hx, hsm, hc⟩ := HI.out.at7 i (by rw [HN.out]; exact hi1)
          have HC := Lib.hid hc
          have HSM := Lib.hid hsm
          clear hx hsm hc
          obtain ⟨ow, ot, on, oc, oe, oo, ol⟩ := ox
          dsimp only at HC
          obtain ⟨d0, d1, d2, d3, d4, d5, d6⟩ := HC.out wr HP.out.l
          have HSQ := Lib.hid (show ot.size ≤ 140737488355328 ∧ on.size ≤ 140737488355328 from HSM.out)
          obtain ⟨u1, hu1⟩ : ∃ u1, ((wr.alloc (.cells #[.int .i64 ow, .string ot, .string on, .int .i64 oc, .int .i64 oe, .int .i64 oo, .int .i64 ol] 30)).alloc (.cells #[.string ⟨#[]⟩, .string ⟨#[]⟩, .int .i64 0, .int .i64 0, .int .i64 0, .bool false] 32)).alloc (.cells #[.string ⟨#[]⟩, .string ⟨#[]⟩, .int .i64 0, .int .i64 0, .int .i64 0, .bool false] 32) = u1 := ⟨_, rfl⟩
          obtain ⟨p, hp⟩ : ∃ p, wr.heap.size = p := ⟨_, rfl⟩
          have q1 : (wr.alloc (.cells #[.int .i64 ow, .string ot, .string on, .int .i64 oc, .int .i64 oe, .int .i64 oo, .int .i64 ol] 30)).heap.size = p + 1 := by rw [← hp]; exact World.size_alloc ..
          have q2 : ((wr.alloc (.cells #[.int .i64 ow, .string ot, .string on, .int .i64 oc, .int .i64 oe, .int .i64 oo, .int .i64 ol] 30)).alloc (.cells #[.string ⟨#[]⟩, .string ⟨#[]⟩, .int .i64 0, .int .i64 0, .int .i64 0, .bool false] 32)).heap.size = p + 2 := by rw [World.size_alloc, q1]
          have HB := Lib.hid (show Below wr.heap.size wr u1 by rw [← hu1]; exact (((Below.refl wr.heap.size wr).alloc (Nat.le_refl _) _).alloc (by simp) _).alloc (by simp; omega) _)
          obtain ⟨px, hpx⟩ : ∃ px, p + 1 = px := ⟨_, rfl⟩
          obtain ⟨py, hpy⟩ : ∃ py, px + 1 = py := ⟨_, rfl⟩
          have hpy2 : py = p + 2 := by omega
          have hgp : ∀ k, p ≤ k → k ∉ T := fun k hk hm => by have := HP.out.hi k hm; omega
          have HPP := Lib.hid (show px = p + 1 ∧ py = p + 2 ∧ W.heap.size ≤ p ∧ p + 3 ≤ u1.heap.size from ⟨hpx.symm, hpy2, by rw [← hp]; exact HP.out.l.size, by rw [← hu1, World.size_alloc, q2]; omega⟩)
          have HO1 := Lib.hid (show Bz u1 T p 30 #[.int .i64 ow, .string ot, .string on, .int .i64 oc, .int .i64 oe, .int .i64 oo, .int .i64 ol] from ⟨by rw [← hu1, ← hp]; exact ((Bk.new wr 30 _).alloc _).alloc _, hgp _ (Nat.le_refl _)⟩)
          have HX1 := Lib.hid (show Bz u1 T px 32 #[.string ⟨#[]⟩, .string ⟨#[]⟩, .int .i64 0, .int .i64 0, .int .i64 0, .bool false] from ⟨by rw [← hu1, ← hpx, ← q1]; exact (Bk.new _ 32 _).alloc _, hgp _ (by omega)⟩)
          have HY1 := Lib.hid (show Bz u1 T py 32 #[.string ⟨#[]⟩, .string ⟨#[]⟩, .int .i64 0, .int .i64 0, .int .i64 0, .bool false] from ⟨by rw [← hu1, hpy2, ← q2]; exact Bk.new _ 32 _, hgp _ (by omega)⟩)
          have HP1 := Lib.hid (HP.out.on HB.out)
          clear hgp q1 q2 hpy2
          go_upto_region 12 with fail
          try dsimp only
          try rw [hu1]
          try rw [hp]
          try rw [hpx]
          try rw [hpy]
          clear hu1 hp hpx hpy d0 d1 d2 d3 d4 d5 d6
          by_cases h2 : ow = 2
          · subst h2
            as_aux_lemma =>
              obtain ⟨⟨⟨xn, xt, xc, xe, xu, xh⟩, er, b2⟩, hR⟩ : ∃ R, renewL most b ot on oe oo ol = R := ⟨_, rfl⟩
              have HR0 := Lib.hid hR
              clear hR
              have HNN := Lib.hid (show b2.nx ≤ ((i + 1 : Nat) : Int) + 1 by have h1 := nx_step HP.out.ok (o := ⟨2, ot, on, oc, oe, oo, ol⟩) (show doL g most b ⟨2, ot, on, oc, oe, oo, ol⟩ = (⟨xn, xt, xc, xe, xu, xh⟩, er, b2) by unfold doL; dsimp only; rw [if_pos rfl, HR0.out]); have h2 := HNI.out; omega)
              have d0 : u1.cell? ⟨p, 0, none⟩ = some (.int .i64 2) := HO1.out.b.cell 0
              have d1 : u1.cell? ⟨p, 1, none⟩ = some (.string ot) := HO1.out.b.cell 1
              have d2 : u1.cell? ⟨p, 2, none⟩ = some (.string on) := HO1.out.b.cell 2
              have d3 : u1.cell? ⟨p, 3, none⟩ = some (.int .i64 oc) := HO1.out.b.cell 3
              have d4 : u1.cell? ⟨p, 4, none⟩ = some (.int .i64 oe) := HO1.out.b.cell 4
              have d5 : u1.cell? ⟨p, 5, none⟩ = some (.int .i64 oo) := HO1.out.b.cell 5
              have d6 : u1.cell? ⟨p, 6, none⟩ = some (.int .i64 ol) := HO1.out.b.cell 6
              have HQN0 : True := trivial
              go_upto_region 21 with (go_at_call 14; (with_reducible refine (p_renew HP1.out ot on oe oo ol HSQ.out.2 _ HR0.out).mono ?_); rintro e u2 ⟨T2, rfl, h1, h2⟩; have HP2 := Lib.hid h1; have HS2 := Lib.hid h2; clear h1 h2)
              have HO2 := Lib.hid (HO1.out.step HS2.out)
              have HX2 := Lib.hid (HX1.out.step HS2.out)
              have HY2 := Lib.hid (HY1.out.step HS2.out)
              obtain ⟨qa, hq⟩ : ∃ q, u2.heap.size = q := ⟨_, rfl⟩
              obtain ⟨u3, hv⟩ : ∃ v, u2.alloc (.cells #[.string xn, .string xt, .int .i64 xc, .int .i64 xe, .int .i64 xu, .bool xh] 32) = v := ⟨_, rfl⟩
              have HP3 := Lib.hid (show Pz W u3 T2 gb bb g most b2 b by rw [← hv]; exact HP2.out.on ((Below.refl _ _).alloc (Nat.le_refl _) _))
              have HQqa := Lib.hid (show Bz u3 T2 qa 32 #[.string xn, .string xt, .int .i64 xc, .int .i64 xe, .int .i64 xu, .bool xh] by rw [← hv, ← hq]; exact Bz.new HP2.out.hi _ _)
              have HZqa := Lib.hid (show u2.heap.size = qa ∧ u2.heap.size ≤ u3.heap.size from ⟨hq, by rw [← hv, World.size_alloc]; omega⟩)
              have HO3 := Lib.hid (show Bz u3 T2 p 30 #[.int .i64 2, .string ot, .string on, .int .i64 oc, .int .i64 oe, .int .i64 oo, .int .i64 ol] by rw [← hv]; exact HO2.out.alloc _)
              have HX3 := Lib.hid (show Bz u3 T2 px 32 #[.string ⟨#[]⟩, .string ⟨#[]⟩, .int .i64 0, .int .i64 0, .int .i64 0, .bool false] by rw [← hv]; exact HX2.out.alloc _)
              have HY3 := Lib.hid (show Bz u3 T2 py 32 #[.string ⟨#[]⟩, .string ⟨#[]⟩, .int .i64 0, .int .i64 0, .int .i64 0, .bool false] by rw [← hv]; exact HY2.out.alloc _)
              try dsimp only
              rw [hv]
              try rw [hq]
              clear hv hq
              clear d0 d1 d2 d3 d4 d5 d6
              have d0 : u3.cell? ⟨p, 0, none⟩ = some (.int .i64 2) := HO3.out.b.cell 0
              have d1 : u3.cell? ⟨p, 1, none⟩ = some (.string ot) := HO3.out.b.cell 1
              have d2 : u3.cell? ⟨p, 2, none⟩ = some (.string on) := HO3.out.b.cell 2
              have d3 : u3.cell? ⟨p, 3, none⟩ = some (.int .i64 oc) := HO3.out.b.cell 3
              have d4 : u3.cell? ⟨p, 4, none⟩ = some (.int .i64 oe) := HO3.out.b.cell 4
              have d5 : u3.cell? ⟨p, 5, none⟩ = some (.int .i64 oo) := HO3.out.b.cell 5
              have d6 : u3.cell? ⟨p, 6, none⟩ = some (.int .i64 ol) := HO3.out.b.cell 6
              go_upto_region 22 with (go_at_call 15; (with_reducible refine (r_renew HP3.out HGK.out ot on oe oo ol _ HR0.out).mono ?_); rintro e u4 ⟨T4, rfl, h1, h2⟩; have HP4 := Lib.hid h1; have HS4 := Lib.hid h2; clear h1 h2)
              have HO4 := Lib.hid (HO3.out.step HS4.out)
              have HX4 := Lib.hid (HX3.out.step HS4.out)
              have HY4 := Lib.hid (HY3.out.step HS4.out)
              have HQ4 := Lib.hid (HQqa.out.step HS4.out)
              obtain ⟨qb, hq⟩ : ∃ q, u4.heap.size = q := ⟨_, rfl⟩
              obtain ⟨u5, hv⟩ : ∃ v, u4.alloc (.cells #[.string xn, .string xt, .int .i64 xc, .int .i64 xe, .int .i64 xu, .bool xh] 32) = v := ⟨_, rfl⟩
              have HP5 := Lib.hid (show Pz W u5 T4 gb bb g most b2 b2 by rw [← hv]; exact HP4.out.on ((Below.refl _ _).alloc (Nat.le_refl _) _))
              have HQqb := Lib.hid (show Bz u5 T4 qb 32 #[.string xn, .string xt, .int .i64 xc, .int .i64 xe, .int .i64 xu, .bool xh] by rw [← hv, ← hq]; exact Bz.new HP4.out.hi _ _)
              have HZqb := Lib.hid (show u4.heap.size = qb ∧ u4.heap.size ≤ u5.heap.size from ⟨hq, by rw [← hv, World.size_alloc]; omega⟩)
              have HO5 := Lib.hid (show Bz u5 T4 p 30 #[.int .i64 2, .string ot, .string on, .int .i64 oc, .int .i64 oe, .int .i64 oo, .int .i64 ol] by rw [← hv]; exact HO4.out.alloc _)
              have HX5 := Lib.hid (show Bz u5 T4 px 32 #[.string ⟨#[]⟩, .string ⟨#[]⟩, .int .i64 0, .int .i64 0, .int .i64 0, .bool false] by rw [← hv]; exact HX4.out.alloc _)
              have HY5 := Lib.hid (show Bz u5 T4 py 32 #[.string ⟨#[]⟩, .string ⟨#[]⟩, .int .i64 0, .int .i64 0, .int .i64 0, .bool false] by rw [← hv]; exact HY4.out.alloc _)
              have HQ5 := Lib.hid (show Bz u5 T4 qa 32 #[.string xn, .string xt, .int .i64 xc, .int .i64 xe, .int .i64 xu, .bool xh] by rw [← hv]; exact HQ4.out.alloc _)
              try dsimp only
              rw [hv]
              try rw [hq]
              clear hv hq
              clear d0 d1 d2 d3 d4 d5 d6
              have HQB := Lib.hid (show p + 3 ≤ qb by have h1 := HS2.out.k.size; have h2 := HZqa.out; have h3 := HS4.out.k.size; have h4 := HZqb.out; have h5 := HPP.out; omega)
              have HQL := Lib.hid (show qb ≠ py ∧ qb ≠ px from by have := HQB.out; have := HPP.out; omega)
              have y0 : u5.cell? ⟨qa, 0, none⟩ = some (.string xn) := HQ5.out.b.cell 0
              have y1 : u5.cell? ⟨qa, 1, none⟩ = some (.string xt) := HQ5.out.b.cell 1
              have y2 : u5.cell? ⟨qa, 2, none⟩ = some (.int .i64 xc) := HQ5.out.b.cell 2
              have y3 : u5.cell? ⟨qa, 3, none⟩ = some (.int .i64 xe) := HQ5.out.b.cell 3
              have y4 : u5.cell? ⟨qa, 4, none⟩ = some (.int .i64 xu) := HQ5.out.b.cell 4
              have y5 : u5.cell? ⟨qa, 5, none⟩ = some (.bool xh) := HQ5.out.b.cell 5
              have k0 := HQ5.out.b.frozen 0
              have k1 := HQ5.out.b.frozen 1
              have k2 := HQ5.out.b.frozen 2
              have k3 := HQ5.out.b.frozen 3
              have k4 := HQ5.out.b.frozen 4
              have k5 := HQ5.out.b.frozen 5
              have z0 : u5.cell? ⟨px, 0, none⟩ = some (.string ⟨#[]⟩) := HX5.out.b.cell 0
              have z1 : u5.cell? ⟨px, 1, none⟩ = some (.string ⟨#[]⟩) := HX5.out.b.cell 1
              have z2 : u5.cell? ⟨px, 2, none⟩ = some (.int .i64 0) := HX5.out.b.cell 2
              have z3 : u5.cell? ⟨px, 3, none⟩ = some (.int .i64 0) := HX5.out.b.cell 3
              have z4 : u5.cell? ⟨px, 4, none⟩ = some (.int .i64 0) := HX5.out.b.cell 4
              have z5 : u5.cell? ⟨px, 5, none⟩ = some (.bool false) := HX5.out.b.cell 5
              have m0 := HX5.out.b.frozen 0
              have m1 := HX5.out.b.frozen 1
              have m2 := HX5.out.b.frozen 2
              have m3 := HX5.out.b.frozen 3
              have m4 := HX5.out.b.frozen 4
              have m5 := HX5.out.b.frozen 5
              go_upto_region 23 with fail
              obtain ⟨u6, hu4⟩ : ∃ v, Proofs.Ytpbobmiajjgekaa.set6 u5 px (.string xn) (.string xt) (.int .i64 xc) (.int .i64 xe) (.int .i64 xu) (.bool xh) = v := ⟨_, rfl⟩
              have hu4' := hu4
              try unfold Proofs.Ytpbobmiajjgekaa.set6 at hu4'
              have hpx := HPP.out
              have HW6 := Lib.hid (show W.heap.size ≤ px ∧ W.heap.size ≤ py by omega)
              have HP6 := Lib.hid (show Pz W u6 T4 gb bb g most b2 b2 by rw [← hu4]; exact HP5.out.set6 HX5.out.n HW6.out.1 _ _ _ _ _ _)
              have HX6 := Lib.hid (show Bz u6 T4 px 32 #[.string xn, .string xt, .int .i64 xc, .int .i64 xe, .int .i64 xu, .bool xh] from ⟨by rw [← hu4]; exact HX5.out.b.set6 _ _ _ _ _ _, HX5.out.n⟩)
              have HY6 := Lib.hid (show Bz u6 T4 py 32 #[.string ⟨#[]⟩, .string ⟨#[]⟩, .int .i64 0, .int .i64 0, .int .i64 0, .bool false] from ⟨by rw [← hu4]; exact HY5.out.b.set6Far (by omega) _ _ _ _ _ _, HY5.out.n⟩)
              have HO6 := Lib.hid (show Bz u6 T4 p 30 #[.int .i64 2, .string ot, .string on, .int .i64 oc, .int .i64 oe, .int .i64 oo, .int .i64 ol] from ⟨by rw [← hu4]; exact HO5.out.b.set6Far (by omega) _ _ _ _ _ _, HO5.out.n⟩)
              have HB6 := Lib.hid (show Bz u6 T4 qb 32 #[.string xn, .string xt, .int .i64 xc, .int .i64 xe, .int .i64 xu, .bool xh] from ⟨by rw [← hu4]; exact HQqb.out.b.set6Far (fun e => HQL.out.2 e.symm) _ _ _ _ _ _, HQqb.out.n⟩)
              clear hpx
              try rw [hu4']
              try rw [hu4]
              clear hu4 hu4'
              clear y0 y1 y2 y3 y4 y5 k0 k1 k2 k3 k4 k5
              clear z0 z1 z2 z3 z4 z5 m0 m1 m2 m3 m4 m5
              have y0 : u6.cell? ⟨qb, 0, none⟩ = some (.string xn) := HB6.out.b.cell 0
              have y1 : u6.cell? ⟨qb, 1, none⟩ = some (.string xt) := HB6.out.b.cell 1
              have y2 : u6.cell? ⟨qb, 2, none⟩ = some (.int .i64 xc) := HB6.out.b.cell 2
              have y3 : u6.cell? ⟨qb, 3, none⟩ = some (.int .i64 xe) := HB6.out.b.cell 3
              have y4 : u6.cell? ⟨qb, 4, none⟩ = some (.int .i64 xu) := HB6.out.b.cell 4
              have y5 : u6.cell? ⟨qb, 5, none⟩ = some (.bool xh) := HB6.out.b.cell 5
              have k0 := HB6.out.b.frozen 0
              have k1 := HB6.out.b.frozen 1
              have k2 := HB6.out.b.frozen 2
              have k3 := HB6.out.b.frozen 3
              have k4 := HB6.out.b.frozen 4
              have k5 := HB6.out.b.frozen 5
              have z0 : u6.cell? ⟨py, 0, none⟩ = some (.string ⟨#[]⟩) := HY6.out.b.cell 0
              have z1 : u6.cell? ⟨py, 1, none⟩ = some (.string ⟨#[]⟩) := HY6.out.b.cell 1
              have z2 : u6.cell? ⟨py, 2, none⟩ = some (.int .i64 0) := HY6.out.b.cell 2
              have z3 : u6.cell? ⟨py, 3, none⟩ = some (.int .i64 0) := HY6.out.b.cell 3
              have z4 : u6.cell? ⟨py, 4, none⟩ = some (.int .i64 0) := HY6.out.b.cell 4
              have z5 : u6.cell? ⟨py, 5, none⟩ = some (.bool false) := HY6.out.b.cell 5
              have m0 := HY6.out.b.frozen 0
              have m1 := HY6.out.b.frozen 1
              have m2 := HY6.out.b.frozen 2
              have m3 := HY6.out.b.frozen 3
              have m4 := HY6.out.b.frozen 4
              have m5 := HY6.out.b.frozen 5
              go_upto_region 42 with fail
              obtain ⟨u7, hu4⟩ : ∃ v, Proofs.Ytpbobmiajjgekaa.set6 u6 py (.string xn) (.string xt) (.int .i64 xc) (.int .i64 xe) (.int .i64 xu) (.bool xh) = v := ⟨_, rfl⟩
              have hu4' := hu4
              try unfold Proofs.Ytpbobmiajjgekaa.set6 at hu4'
              have hpx := HPP.out
              have HPT := Lib.hid (show Pz W u7 T4 gb bb g most b2 b2 by rw [← hu4]; exact HP6.out.set6 HY6.out.n HW6.out.2 _ _ _ _ _ _)
              have HYT := Lib.hid (show Bz u7 T4 py 32 #[.string xn, .string xt, .int .i64 xc, .int .i64 xe, .int .i64 xu, .bool xh] from ⟨by rw [← hu4]; exact HY6.out.b.set6 _ _ _ _ _ _, HY6.out.n⟩)
              have HXT := Lib.hid (show Bz u7 T4 px 32 #[.string xn, .string xt, .int .i64 xc, .int .i64 xe, .int .i64 xu, .bool xh] from ⟨by rw [← hu4]; exact HX6.out.b.set6Far (by omega) _ _ _ _ _ _, HX6.out.n⟩)
              have HOT := Lib.hid (show Bz u7 T4 p 30 #[.int .i64 2, .string ot, .string on, .int .i64 oc, .int .i64 oe, .int .i64 oo, .int .i64 ol] from ⟨by rw [← hu4]; exact HO6.out.b.set6Far (by omega) _ _ _ _ _ _, HO6.out.n⟩)
              clear hpx
              try rw [hu4']
              try rw [hu4]
              clear hu4 hu4'
              clear y0 y1 y2 y3 y4 y5 k0 k1 k2 k3 k4 k5
              clear z0 z1 z2 z3 z4 z5 m0 m1 m2 m3 m4 m5
              have d0 : u7.cell? ⟨p, 0, none⟩ = some (.int .i64 2) := HOT.out.b.cell 0
              have d1 : u7.cell? ⟨p, 1, none⟩ = some (.string ot) := HOT.out.b.cell 1
              have d2 : u7.cell? ⟨p, 2, none⟩ = some (.string on) := HOT.out.b.cell 2
              have d3 : u7.cell? ⟨p, 3, none⟩ = some (.int .i64 oc) := HOT.out.b.cell 3
              have d4 : u7.cell? ⟨p, 4, none⟩ = some (.int .i64 oe) := HOT.out.b.cell 4
              have d5 : u7.cell? ⟨p, 5, none⟩ = some (.int .i64 oo) := HOT.out.b.cell 5
              have d6 : u7.cell? ⟨p, 6, none⟩ = some (.int .i64 ol) := HOT.out.b.cell 6
              obtain ⟨⟨vn, vt, vc, ve, vu, vh⟩, hhv⟩ : ∃ v, (holdL b2 on oo).getD zeroLs = v := ⟨_, rfl⟩
              obtain ⟨hs, hhs⟩ : ∃ v, (holdL b2 on oo).isSome = v := ⟨_, rfl⟩
              have HH1 := Lib.hid hhv
              have HH2 := Lib.hid hhs
              clear hhv hhs
              go_upto_region 43 with (go_at_call 27; (with_reducible refine (p_holder HPT.out on oo HSQ.out.2 _ _ HH1.out HH2.out).mono ?_); rintro e uA ⟨rfl, hb⟩; have HPA := Lib.hid (HPT.out.on hb); have HXA := Lib.hid (HXT.out.on hb); have HYA := Lib.hid (HYT.out.on hb); have HOA := Lib.hid (HOT.out.on hb); clear hb)
              obtain ⟨qh, hq⟩ : ∃ q, uA.heap.size = q := ⟨_, rfl⟩
              obtain ⟨uB, hv⟩ : ∃ v, uA.alloc (.cells #[.string vn, .string vt, .int .i64 vc, .int .i64 ve, .int .i64 vu, .bool vh] 32) = v := ⟨_, rfl⟩
              have HPB := Lib.hid (show Pz W uB T4 gb bb g most b2 b2 by rw [← hv]; exact HPA.out.on ((Below.refl _ _).alloc (Nat.le_refl _) _))
              have HQqh := Lib.hid (show Bz uB T4 qh 32 #[.string vn, .string vt, .int .i64 vc, .int .i64 ve, .int .i64 vu, .bool vh] by rw [← hv, ← hq]; exact Bz.new HPA.out.hi _ _)
              have HZqh := Lib.hid (show uA.heap.size = qh ∧ uA.heap.size ≤ uB.heap.size from ⟨hq, by rw [← hv, World.size_alloc]; omega⟩)
              have HOB := Lib.hid (show Bz uB T4 p 30 #[.int .i64 2, .string ot, .string on, .int .i64 oc, .int .i64 oe, .int .i64 oo, .int .i64 ol] by rw [← hv]; exact HOA.out.alloc _)
              have HXB := Lib.hid (show Bz uB T4 px 32 #[.string xn, .string xt, .int .i64 xc, .int .i64 xe, .int .i64 xu, .bool xh] by rw [← hv]; exact HXA.out.alloc _)
              have HYB := Lib.hid (show Bz uB T4 py 32 #[.string xn, .string xt, .int .i64 xc, .int .i64 xe, .int .i64 xu, .bool xh] by rw [← hv]; exact HYA.out.alloc _)
              try dsimp only
              rw [hv]
              try rw [hq]
              clear hv hq
              clear d0 d1 d2 d3 d4 d5 d6
              have d0 : uB.cell? ⟨p, 0, none⟩ = some (.int .i64 2) := HOB.out.b.cell 0
              have d1 : uB.cell? ⟨p, 1, none⟩ = some (.string ot) := HOB.out.b.cell 1
              have d2 : uB.cell? ⟨p, 2, none⟩ = some (.string on) := HOB.out.b.cell 2
              have d3 : uB.cell? ⟨p, 3, none⟩ = some (.int .i64 oc) := HOB.out.b.cell 3
              have d4 : uB.cell? ⟨p, 4, none⟩ = some (.int .i64 oe) := HOB.out.b.cell 4
              have d5 : uB.cell? ⟨p, 5, none⟩ = some (.int .i64 oo) := HOB.out.b.cell 5
              have d6 : uB.cell? ⟨p, 6, none⟩ = some (.int .i64 ol) := HOB.out.b.cell 6
              go_upto_region 44 with (go_at_call 28; (with_reducible refine (r_holder HPB.out HPB.out.ok on oo _ _ HH1.out HH2.out).mono ?_); rintro e uC ⟨rfl, hb⟩; have HPC := Lib.hid (HPB.out.on hb); have HXC := Lib.hid (HXB.out.on hb); have HYC := Lib.hid (HYB.out.on hb); have HHC := Lib.hid (HQqh.out.on hb); clear hb)
              obtain ⟨qi, hq⟩ : ∃ q, uC.heap.size = q := ⟨_, rfl⟩
              obtain ⟨uD, hv⟩ : ∃ v, uC.alloc (.cells #[.string vn, .string vt, .int .i64 vc, .int .i64 ve, .int .i64 vu, .bool vh] 32) = v := ⟨_, rfl⟩
              have HPD := Lib.hid (show Pz W uD T4 gb bb g most b2 b2 by rw [← hv]; exact HPC.out.on ((Below.refl _ _).alloc (Nat.le_refl _) _))
              have HQqi := Lib.hid (show Bz uD T4 qi 32 #[.string vn, .string vt, .int .i64 vc, .int .i64 ve, .int .i64 vu, .bool vh] by rw [← hv, ← hq]; exact Bz.new HPC.out.hi _ _)
              have HZqi := Lib.hid (show uC.heap.size = qi ∧ uC.heap.size ≤ uD.heap.size from ⟨hq, by rw [← hv, World.size_alloc]; omega⟩)
              have HXD := Lib.hid (show Bz uD T4 px 32 #[.string xn, .string xt, .int .i64 xc, .int .i64 xe, .int .i64 xu, .bool xh] by rw [← hv]; exact HXC.out.alloc _)
              have HYD := Lib.hid (show Bz uD T4 py 32 #[.string xn, .string xt, .int .i64 xc, .int .i64 xe, .int .i64 xu, .bool xh] by rw [← hv]; exact HYC.out.alloc _)
              have HHD2 := Lib.hid (show Bz uD T4 qh 32 #[.string vn, .string vt, .int .i64 vc, .int .i64 ve, .int .i64 vu, .bool vh] by rw [← hv]; exact HHC.out.alloc _)
              try dsimp only
              rw [hv]
              try rw [hq]
              clear hv hq
              clear d0 d1 d2 d3 d4 d5 d6
              obtain ⟨Ar, cr, hr1, hr2⟩ := HPD.out.row
              obtain ⟨k, hk⟩ : ∃ k, b2.l.length = k := ⟨_, rfl⟩
              have HK := Lib.hid hk
              have hk64 : k ≤ 64 := by rw [← hk]; exact HPD.out.ok.few
              rw [hk] at hr1
              have HRB := Lib.hid hr1
              have HRR := Lib.hid hr2
              have HSS := Lib.hid (show ∀ u, Below uD.heap.size uD u → Bk u px 32 #[.string xn, .string xt, .int .i64 xc, .int .i64 xe, .int .i64 xu, .bool xh] ∧ Bk u py 32 #[.string xn, .string xt, .int .i64 xc, .int .i64 xe, .int .i64 xu, .bool xh] ∧ Bk u qh 32 #[.string vn, .string vt, .int .i64 vc, .int .i64 ve, .int .i64 vu, .bool vh] ∧ Bk u qi 32 #[.string vn, .string vt, .int .i64 vc, .int .i64 ve, .int .i64 vu, .bool vh] ∧ Bk u bb 46 (bkc Ar k cr g most b2.nx) from fun u hb => ⟨HXD.out.b.below hb HXD.out.b.lt, HYD.out.b.below hb HYD.out.b.lt, HHD2.out.b.below hb HHD2.out.b.lt, HQqi.out.b.below hb HQqi.out.b.lt, HRB.out.below hb HRB.out.lt⟩)
              clear hk hr1 hr2
              try simp only [List.cons_append, List.nil_append]
              refine wp_region_held_drew (S := fun wz => Bk wz px 32 #[.string xn, .string xt, .int .i64 xc, .int .i64 xe, .int .i64 xu, .bool xh] ∧ Bk wz py 32 #[.string xn, .string xt, .int .i64 xc, .int .i64 xe, .int .i64 xu, .bool xh] ∧ Bk wz qh 32 #[.string vn, .string vt, .int .i64 vc, .int .i64 ve, .int .i64 vu, .bool vh] ∧ Bk wz qi 32 #[.string vn, .string vt, .int .i64 vc, .int .i64 ve, .int .i64 vu, .bool vh] ∧ Bk wz bb 46 (bkc Ar k cr g most b2.nx)) (by kernel_rfl) (HSS.out _ (Below.refl _ _).drew) (fun hHeld => ?_)
              refine take_at (some 232) (i := 0) (v := ?_) rfl rfl (by kernel_rfl) (by kernel_rfl) (by kernel_rfl) (fun _ _ _ h => h) (Or.inl ⟨by kernel_rfl, ?_⟩) hHeld ?_
              rotate_left
              · intro wz hSw; have x0 : wz.cell? ⟨px, 0, none⟩ = some (.string xn) := hSw.1.cell 0; have x1 : wz.cell? ⟨px, 1, none⟩ = some (.string xt) := hSw.1.cell 1; have x2 : wz.cell? ⟨px, 2, none⟩ = some (.int .i64 xc) := hSw.1.cell 2; have x3 : wz.cell? ⟨px, 3, none⟩ = some (.int .i64 xe) := hSw.1.cell 3; have x4 : wz.cell? ⟨px, 4, none⟩ = some (.int .i64 xu) := hSw.1.cell 4; have x5 : wz.cell? ⟨px, 5, none⟩ = some (.bool xh) := hSw.1.cell 5; go_simp; try (with_reducible rfl)
              try simp only [Act.put, List.setIfInBounds_toArray, List.set_cons_zero, List.set_cons_succ, List.getElem_toArray, List.getElem_cons_succ, List.getElem_cons_zero]
              refine take_at (some 233) (i := 1) (v := ?_) rfl rfl (by kernel_rfl) (by kernel_rfl) (by kernel_rfl) (fun _ _ _ h => h) (Or.inl ⟨by kernel_rfl, ?_⟩) hHeld ?_
              rotate_left
              · intro wz hSw; have y0 : wz.cell? ⟨py, 0, none⟩ = some (.string xn) := hSw.2.1.cell 0; have y1 : wz.cell? ⟨py, 1, none⟩ = some (.string xt) := hSw.2.1.cell 1; have y2 : wz.cell? ⟨py, 2, none⟩ = some (.int .i64 xc) := hSw.2.1.cell 2; have y3 : wz.cell? ⟨py, 3, none⟩ = some (.int .i64 xe) := hSw.2.1.cell 3; have y4 : wz.cell? ⟨py, 4, none⟩ = some (.int .i64 xu) := hSw.2.1.cell 4; have y5 : wz.cell? ⟨py, 5, none⟩ = some (.bool xh) := hSw.2.1.cell 5; go_simp; try (with_reducible rfl)
              try simp only [Act.put, List.setIfInBounds_toArray, List.set_cons_zero, List.set_cons_succ, List.getElem_toArray, List.getElem_cons_succ, List.getElem_cons_zero]
              refine take_at (some 234) (i := 2) rfl rfl (by kernel_rfl) (by kernel_rfl) (by kernel_rfl) (fun _ _ _ h => h) (yieldsIf_nls (by kernel_rfl) (.tmp 232) (.tmp 233) _ rfl ⟨xn, xt, xc, xe, xu, xh⟩ rfl rfl) hHeld ?_
              try simp only [Act.put, List.setIfInBounds_toArray, List.set_cons_zero, List.set_cons_succ, List.getElem_toArray, List.getElem_cons_succ, List.getElem_cons_zero]
              refine take_at (some 235) (i := 3) (v := ?_) rfl rfl (by kernel_rfl) (by kernel_rfl) (by kernel_rfl) (fun _ _ _ h => h) (Or.inl ⟨by kernel_rfl, ?_⟩) hHeld ?_
              rotate_left
              · intro wz hSw; go_simp; try (with_reducible rfl)
              try simp only [Act.put, List.setIfInBounds_toArray, List.set_cons_zero, List.set_cons_succ, List.getElem_toArray, List.getElem_cons_succ, List.getElem_cons_zero]
              refine take_at (some 236) (i := 4) (v := ?_) rfl rfl (by kernel_rfl) (by kernel_rfl) (by kernel_rfl) (fun _ _ _ h => h) (Or.inl ⟨by kernel_rfl, ?_⟩) hHeld ?_
              rotate_left
              · intro wz hSw; go_simp; try (with_reducible rfl)
              try simp only [Act.put, List.setIfInBounds_toArray, List.set_cons_zero, List.set_cons_succ, List.getElem_toArray, List.getElem_cons_succ, List.getElem_cons_zero]
              refine take_at (some 237) (i := 5) (v := ?_) rfl rfl (by kernel_rfl) (by kernel_rfl) (by kernel_rfl) (fun _ _ _ h => h) (Or.inl ⟨by kernel_rfl, ?_⟩) hHeld ?_
              rotate_left
              · intro wz hSw; go_simp; try (with_reducible rfl)
              try simp only [Act.put, List.setIfInBounds_toArray, List.set_cons_zero, List.set_cons_succ, List.getElem_toArray, List.getElem_cons_succ, List.getElem_cons_zero]
              refine take_at (some 238) (i := 6) (v := ?_) rfl rfl (by kernel_rfl) (by kernel_rfl) (by kernel_rfl) (fun _ _ _ h => h) (Or.inl ⟨by kernel_rfl, ?_⟩) hHeld ?_
              rotate_left
              · intro wz hSw; go_simp; try (with_reducible rfl)
              try simp only [Act.put, List.setIfInBounds_toArray, List.set_cons_zero, List.set_cons_succ, List.getElem_toArray, List.getElem_cons_succ, List.getElem_cons_zero]
              refine take_at (some 239) (i := 7) (v := ?_) rfl rfl (by kernel_rfl) (by kernel_rfl) (by kernel_rfl) (fun _ _ _ h => h) (Or.inl ⟨by kernel_rfl, ?_⟩) hHeld ?_
              rotate_left
              · intro wz hSw; go_simp; try (with_reducible rfl)
              try simp only [Act.put, List.setIfInBounds_toArray, List.set_cons_zero, List.set_cons_succ, List.getElem_toArray, List.getElem_cons_succ, List.getElem_cons_zero]
              refine take_at (some 240) (i := 8) (v := ?_) rfl rfl (by kernel_rfl) (by kernel_rfl) (by kernel_rfl) (fun _ _ _ h => h) (Or.inl ⟨by kernel_rfl, ?_⟩) hHeld ?_
              rotate_left
              · intro wz hSw; go_simp; try (with_reducible rfl)
              try simp only [Act.put, List.setIfInBounds_toArray, List.set_cons_zero, List.set_cons_succ, List.getElem_toArray, List.getElem_cons_succ, List.getElem_cons_zero]
              refine take_at (some 241) (i := 9) (v := ?_) rfl rfl (by kernel_rfl) (by kernel_rfl) (by kernel_rfl) (fun _ _ _ h => h) (Or.inl ⟨by kernel_rfl, ?_⟩) hHeld ?_
              rotate_left
              · intro wz hSw; have h0 : wz.cell? ⟨qh, 0, none⟩ = some (.string vn) := hSw.2.2.1.cell 0; have h1 : wz.cell? ⟨qh, 1, none⟩ = some (.string vt) := hSw.2.2.1.cell 1; have h2 : wz.cell? ⟨qh, 2, none⟩ = some (.int .i64 vc) := hSw.2.2.1.cell 2; have h3 : wz.cell? ⟨qh, 3, none⟩ = some (.int .i64 ve) := hSw.2.2.1.cell 3; have h4 : wz.cell? ⟨qh, 4, none⟩ = some (.int .i64 vu) := hSw.2.2.1.cell 4; have h5 : wz.cell? ⟨qh, 5, none⟩ = some (.bool vh) := hSw.2.2.1.cell 5; go_simp; try (with_reducible rfl)
              try simp only [Act.put, List.setIfInBounds_toArray, List.set_cons_zero, List.set_cons_succ, List.getElem_toArray, List.getElem_cons_succ, List.getElem_cons_zero]
              refine take_at (some 242) (i := 10) (v := ?_) rfl rfl (by kernel_rfl) (by kernel_rfl) (by kernel_rfl) (fun _ _ _ h => h) (Or.inl ⟨by kernel_rfl, ?_⟩) hHeld ?_
              rotate_left
              · intro wz hSw; have h0 : wz.cell? ⟨qi, 0, none⟩ = some (.string vn) := hSw.2.2.2.1.cell 0; have h1 : wz.cell? ⟨qi, 1, none⟩ = some (.string vt) := hSw.2.2.2.1.cell 1; have h2 : wz.cell? ⟨qi, 2, none⟩ = some (.int .i64 vc) := hSw.2.2.2.1.cell 2; have h3 : wz.cell? ⟨qi, 3, none⟩ = some (.int .i64 ve) := hSw.2.2.2.1.cell 3; have h4 : wz.cell? ⟨qi, 4, none⟩ = some (.int .i64 vu) := hSw.2.2.2.1.cell 4; have h5 : wz.cell? ⟨qi, 5, none⟩ = some (.bool vh) := hSw.2.2.2.1.cell 5; go_simp; try (with_reducible rfl)
              try simp only [Act.put, List.setIfInBounds_toArray, List.set_cons_zero, List.set_cons_succ, List.getElem_toArray, List.getElem_cons_succ, List.getElem_cons_zero]
              refine take_at (some 243) (i := 11) rfl rfl (by kernel_rfl) (by kernel_rfl) (by kernel_rfl) (fun _ _ _ h => h) (yieldsIf_nls (by kernel_rfl) (.tmp 241) (.tmp 242) _ rfl ⟨vn, vt, vc, ve, vu, vh⟩ rfl rfl) hHeld ?_
              try simp only [Act.put, List.setIfInBounds_toArray, List.set_cons_zero, List.set_cons_succ, List.getElem_toArray, List.getElem_cons_succ, List.getElem_cons_zero]
              refine take_at (some 244) (i := 12) (v := ?_) rfl rfl (by kernel_rfl) (by kernel_rfl) (by kernel_rfl) (fun _ _ _ h => h) (Or.inl ⟨by kernel_rfl, ?_⟩) hHeld ?_
              rotate_left
              · intro wz hSw; go_simp; try (with_reducible rfl)
              try simp only [Act.put, List.setIfInBounds_toArray, List.set_cons_zero, List.set_cons_succ, List.getElem_toArray, List.getElem_cons_succ, List.getElem_cons_zero]
              refine take_at (some 245) (i := 13) (v := ?_) rfl rfl (by kernel_rfl) (by kernel_rfl) (by kernel_rfl) (fun _ _ _ h => h) (Or.inl ⟨by kernel_rfl, ?_⟩) hHeld ?_
              rotate_left
              · intro wz hSw; go_simp; try (with_reducible rfl)
              try simp only [Act.put, List.setIfInBounds_toArray, List.set_cons_zero, List.set_cons_succ, List.getElem_toArray, List.getElem_cons_succ, List.getElem_cons_zero]
              refine take_at (some 246) (i := 14) (v := ?_) rfl rfl (by kernel_rfl) (by kernel_rfl) (by kernel_rfl) (fun _ _ _ h => h) (Or.inl ⟨by kernel_rfl, ?_⟩) hHeld ?_
              rotate_left
              · intro wz hSw; go_simp; try (with_reducible rfl)
              try simp only [Act.put, List.setIfInBounds_toArray, List.set_cons_zero, List.set_cons_succ, List.getElem_toArray, List.getElem_cons_succ, List.getElem_cons_zero]
              refine take_at (some 247) (i := 15) (v := ?_) rfl rfl (by kernel_rfl) (by kernel_rfl) (by kernel_rfl) (fun _ _ _ h => h) (Or.inl ⟨by kernel_rfl, ?_⟩) hHeld ?_
              rotate_left
              · intro wz hSw; go_simp; try (with_reducible rfl)
              try simp only [Act.put, List.setIfInBounds_toArray, List.set_cons_zero, List.set_cons_succ, List.getElem_toArray, List.getElem_cons_succ, List.getElem_cons_zero]
              refine take_at (some 248) (i := 16) (v := ?_) rfl rfl (by kernel_rfl) (by kernel_rfl) (by kernel_rfl) (fun _ _ _ h => h) (Or.inl ⟨by kernel_rfl, ?_⟩) hHeld ?_
              rotate_left
              · intro wz hSw; go_simp; try (with_reducible rfl)
              try simp only [Act.put, List.setIfInBounds_toArray, List.set_cons_zero, List.set_cons_succ, List.getElem_toArray, List.getElem_cons_succ, List.getElem_cons_zero]
              refine take_at (some 249) (i := 17) (v := ?_) rfl rfl (by kernel_rfl) (by kernel_rfl) (by kernel_rfl) (fun _ _ _ h => h) (Or.inl ⟨by kernel_rfl, ?_⟩) hHeld ?_
              rotate_left
              · intro wz hSw; go_simp; try (with_reducible rfl)
              try simp only [Act.put, List.setIfInBounds_toArray, List.set_cons_zero, List.set_cons_succ, List.getElem_toArray, List.getElem_cons_succ, List.getElem_cons_zero]
              refine take_at (some 250) (i := 18) (v := ?_) rfl rfl (by kernel_rfl) (by kernel_rfl) (by kernel_rfl) (fun _ _ _ h => h) (Or.inl ⟨by kernel_rfl, ?_⟩) hHeld ?_
              rotate_left
              · intro wz hSw; go_simp; try (with_reducible rfl)
              try simp only [Act.put, List.setIfInBounds_toArray, List.set_cons_zero, List.set_cons_succ, List.getElem_toArray, List.getElem_cons_succ, List.getElem_cons_zero]
              refine take_at (some 251) (i := 19) (v := ?_) rfl rfl (by kernel_rfl) (by kernel_rfl) (by kernel_rfl) (fun _ _ _ h => h) (Or.inl ⟨by kernel_rfl, ?_⟩) hHeld ?_
              rotate_left
              · intro wz hSw; go_simp; try (with_reducible rfl)
              try simp only [Act.put, List.setIfInBounds_toArray, List.set_cons_zero, List.set_cons_succ, List.getElem_toArray, List.getElem_cons_succ, List.getElem_cons_zero]
              refine take_at (some 253) (i := 21) (v := ?_) rfl rfl (by kernel_rfl) (by kernel_rfl) (by kernel_rfl) (fun _ _ _ h => h) (Or.inl ⟨by kernel_rfl, ?_⟩) hHeld ?_
              rotate_left
              · intro wz hSw; go_simp; try (with_reducible rfl)
              try simp only [Act.put, List.setIfInBounds_toArray, List.set_cons_zero, List.set_cons_succ, List.getElem_toArray, List.getElem_cons_succ, List.getElem_cons_zero]
              refine take_at (some 254) (i := 22) (v := ?_) rfl rfl (by kernel_rfl) (by kernel_rfl) (by kernel_rfl) (fun _ _ _ h => h) (Or.inl ⟨by kernel_rfl, ?_⟩) hHeld ?_
              rotate_left
              · intro wz hSw; have e0 : wz.cell? ⟨bb, 0, none⟩ = some (.slice Ar k cr) := hSw.2.2.2.2.cell 0; go_simp; try (with_reducible rfl)
              try simp only [Act.put, List.setIfInBounds_toArray, List.set_cons_zero, List.set_cons_succ, List.getElem_toArray, List.getElem_cons_succ, List.getElem_cons_zero]
              refine take_at (some 255) (i := 23) (v := ?_) rfl rfl (by kernel_rfl) (by kernel_rfl) (by kernel_rfl) (fun _ _ _ h => h) (Or.inl ⟨by kernel_rfl, ?_⟩) hHeld ?_
              rotate_left
              · intro wz hSw; have e0 : wz.cell? ⟨bb, 0, none⟩ = some (.slice Ar k cr) := hSw.2.2.2.2.cell 0; go_simp; try (with_reducible rfl)
              try simp only [Act.put, List.setIfInBounds_toArray, List.set_cons_zero, List.set_cons_succ, List.getElem_toArray, List.getElem_cons_succ, List.getElem_cons_zero]
              refine take_at (some 256) (i := 24) (v := ?_) rfl rfl (by kernel_rfl) (by kernel_rfl) (by kernel_rfl) (fun _ _ _ h => h) (Or.inl ⟨by kernel_rfl, ?_⟩) hHeld ?_
              rotate_left
              · intro wz hSw; have e0 : wz.cell? ⟨bb, 0, none⟩ = some (.slice Ar k cr) := hSw.2.2.2.2.cell 0; go_simp; try (with_reducible rfl)
              try simp only [Act.put, List.setIfInBounds_toArray, List.set_cons_zero, List.set_cons_succ, List.getElem_toArray, List.getElem_cons_succ, List.getElem_cons_zero]
              refine wpAnyH_ready (rs := [20]) (by kernel_rfl) (by simp) (AllReadyH.cons rfl (fun K hK => ?_) AllReadyH.nil)
              rw [if_pos (by kernel_rfl)]
              go_simp
              refine (p_all (HPD.out.on (Below.refl _ _).drew) k HK.out).mono ?_
              rintro e y1 ⟨Aa, ca, rfl, ha, hb1⟩
              try dsimp only
              refine hK.out _ _ (HSS.out y1 ((Below.refl uD.heap.size uD).drew.trans hb1)) (fun hHeld => ?_)
              try simp only [Act.put, List.setIfInBounds_toArray, List.set_cons_zero, List.set_cons_succ, List.getElem_toArray, List.getElem_cons_succ, List.getElem_cons_zero]
              refine wpAnyH_ready (rs := [25]) (by kernel_rfl) (by simp) (AllReadyH.cons rfl (fun K hK => ?_) AllReadyH.nil)
              rw [if_pos (by kernel_rfl)]
              go_simp
              refine (rsame_yes Aa Ar ca cr b2.l y1 k HK.out ha (HRR.out.on ((Below.refl uD.heap.size uD).drew.trans hb1)) (by omega)).mono ?_
              rintro e y2 ⟨rfl, hb2⟩
              try dsimp only
              refine hK.out _ _ (HSS.out y2 (((Below.refl uD.heap.size uD).drew.trans hb1).trans (hb2.mono hb1.size))) (fun hHeld => ?_)
              try simp only [Act.put, List.setIfInBounds_toArray, List.set_cons_zero, List.set_cons_succ, List.getElem_toArray, List.getElem_cons_succ, List.getElem_cons_zero]
              refine take_at (some 258) (i := 26) (v := ?_) rfl rfl (by kernel_rfl) (by kernel_rfl) (by kernel_rfl) (fun _ _ _ h => h) (Or.inl ⟨by kernel_rfl, ?_⟩) hHeld ?_
              rotate_left
              · intro wz hSw; go_simp; try (with_reducible rfl)
              try simp only [Act.put, List.setIfInBounds_toArray, List.set_cons_zero, List.set_cons_succ, List.getElem_toArray, List.getElem_cons_succ, List.getElem_cons_zero]
              refine take_at (some 259) (i := 27) (v := ?_) rfl rfl (by kernel_rfl) (by kernel_rfl) (by kernel_rfl) (fun _ _ _ h => h) (Or.inl ⟨by kernel_rfl, ?_⟩) hHeld ?_
              rotate_left
              · intro wz hSw; go_simp; try (with_reducible rfl)
              try simp only [Act.put, List.setIfInBounds_toArray, List.set_cons_zero, List.set_cons_succ, List.getElem_toArray, List.getElem_cons_succ, List.getElem_cons_zero]
              refine wpAnyH_done (by kernel_rfl) ?_ _
              refine gen_q13 (fun y => Pz W y T4 gb bb g most b2 b2) (HPD.out.on (((Below.refl uD.heap.size uD).drew.trans hb1).trans (hb2.mono hb1.size))) (fun y hy => ?_)
              have HPY := Lib.hid hy
              clear hy hHeld
              go_wp2
              go_roundw
              case rel => exact ⟨i + 1, T4, b2, by omega, by go_num, HPY, HNN⟩
              case measure => simp [intOf]; omega
          have n2 : (ow == 2) = false := by simp [h2]
          by_cases h3 : ow = 3
          · subst h3
            as_aux_lemma =>
              obtain ⟨⟨er, b2⟩, hR⟩ : ∃ R, releaseL g b ot on oe oo = R := ⟨_, rfl⟩
              have HR0 := Lib.hid hR
              clear hR h2 n2
              have HNN := Lib.hid (show b2.nx ≤ ((i + 1 : Nat) : Int) + 1 by have h1 := nx_step HP.out.ok (o := ⟨3, ot, on, oc, oe, oo, ol⟩) (show doL g most b ⟨3, ot, on, oc, oe, oo, ol⟩ = (zeroLs, er, b2) by unfold doL; dsimp only; rw [if_neg (by decide), if_pos rfl, HR0.out]); have h2 := HNI.out; omega)
              have d0 : u1.cell? ⟨p, 0, none⟩ = some (.int .i64 3) := HO1.out.b.cell 0
              have d1 : u1.cell? ⟨p, 1, none⟩ = some (.string ot) := HO1.out.b.cell 1
              have d2 : u1.cell? ⟨p, 2, none⟩ = some (.string on) := HO1.out.b.cell 2
              have d3 : u1.cell? ⟨p, 3, none⟩ = some (.int .i64 oc) := HO1.out.b.cell 3
              have d4 : u1.cell? ⟨p, 4, none⟩ = some (.int .i64 oe) := HO1.out.b.cell 4
              have d5 : u1.cell? ⟨p, 5, none⟩ = some (.int .i64 oo) := HO1.out.b.cell 5
              have d6 : u1.cell? ⟨p, 6, none⟩ = some (.int .i64 ol) := HO1.out.b.cell 6
              go_upto_region 28 with (go_at_call 16; (with_reducible refine (p_release HP1.out ot on oe oo HSQ.out.2 _ HR0.out).mono ?_); rintro e u2 ⟨T2, rfl, h1, h2⟩; have HP2 := Lib.hid h1; have HS2 := Lib.hid h2; clear h1 h2)
              have HO2 := Lib.hid (HO1.out.step HS2.out)
              have HX2 := Lib.hid (HX1.out.step HS2.out)
              have HY2 := Lib.hid (HY1.out.step HS2.out)
              clear d0 d1 d2 d3 d4 d5 d6
              have d0 : u2.cell? ⟨p, 0, none⟩ = some (.int .i64 3) := HO2.out.b.cell 0
              have d1 : u2.cell? ⟨p, 1, none⟩ = some (.string ot) := HO2.out.b.cell 1
              have d2 : u2.cell? ⟨p, 2, none⟩ = some (.string on) := HO2.out.b.cell 2
              have d3 : u2.cell? ⟨p, 3, none⟩ = some (.int .i64 oc) := HO2.out.b.cell 3
              have d4 : u2.cell? ⟨p, 4, none⟩ = some (.int .i64 oe) := HO2.out.b.cell 4
              have d5 : u2.cell? ⟨p, 5, none⟩ = some (.int .i64 oo) := HO2.out.b.cell 5
              have d6 : u2.cell? ⟨p, 6, none⟩ = some (.int .i64 ol) := HO2.out.b.cell 6
              go_upto_region 42 with (go_at_call 17; (with_reducible refine (r_release HP2.out HGK.out ot on oe oo _ HR0.out).mono ?_); rintro e u7 ⟨T4, rfl, h1, h2⟩; have HPT := Lib.hid h1; have HS4 := Lib.hid h2; clear h1 h2)
              have HOT := Lib.hid (HO2.out.step HS4.out)
              have HXT := Lib.hid (HX2.out.step HS4.out)
              have HYT := Lib.hid (HY2.out.step HS4.out)
              clear d0 d1 d2 d3 d4 d5 d6
              have d0 : u7.cell? ⟨p, 0, none⟩ = some (.int .i64 3) := HOT.out.b.cell 0
              have d1 : u7.cell? ⟨p, 1, none⟩ = some (.string ot) := HOT.out.b.cell 1
              have d2 : u7.cell? ⟨p, 2, none⟩ = some (.string on) := HOT.out.b.cell 2
              have d3 : u7.cell? ⟨p, 3, none⟩ = some (.int .i64 oc) := HOT.out.b.cell 3
              have d4 : u7.cell? ⟨p, 4, none⟩ = some (.int .i64 oe) := HOT.out.b.cell 4
              have d5 : u7.cell? ⟨p, 5, none⟩ = some (.int .i64 oo) := HOT.out.b.cell 5
              have d6 : u7.cell? ⟨p, 6, none⟩ = some (.int .i64 ol) := HOT.out.b.cell 6
              obtain ⟨⟨vn, vt, vc, ve, vu, vh⟩, hhv⟩ : ∃ v, (holdL b2 on oo).getD zeroLs = v := ⟨_, rfl⟩
              obtain ⟨hs, hhs⟩ : ∃ v, (holdL b2 on oo).isSome = v := ⟨_, rfl⟩
              have HH1 := Lib.hid hhv
              have HH2 := Lib.hid hhs
              clear hhv hhs
              go_upto_region 43 with (go_at_call 27; (with_reducible refine (p_holder HPT.out on oo HSQ.out.2 _ _ HH1.out HH2.out).mono ?_); rintro e uA ⟨rfl, hb⟩; have HPA := Lib.hid (HPT.out.on hb); have HXA := Lib.hid (HXT.out.on hb); have HYA := Lib.hid (HYT.out.on hb); have HOA := Lib.hid (HOT.out.on hb); clear hb)
              obtain ⟨qh, hq⟩ : ∃ q, uA.heap.size = q := ⟨_, rfl⟩
              obtain ⟨uB, hv⟩ : ∃ v, uA.alloc (.cells #[.string vn, .string vt, .int .i64 vc, .int .i64 ve, .int .i64 vu, .bool vh] 32) = v := ⟨_, rfl⟩
              have HPB := Lib.hid (show Pz W uB T4 gb bb g most b2 b2 by rw [← hv]; exact HPA.out.on ((Below.refl _ _).alloc (Nat.le_refl _) _))
              have HQqh := Lib.hid (show Bz uB T4 qh 32 #[.string vn, .string vt, .int .i64 vc, .int .i64 ve, .int .i64 vu, .bool vh] by rw [← hv, ← hq]; exact Bz.new HPA.out.hi _ _)
              have HZqh := Lib.hid (show uA.heap.size = qh ∧ uA.heap.size ≤ uB.heap.size from ⟨hq, by rw [← hv, World.size_alloc]; omega⟩)
              have HOB := Lib.hid (show Bz uB T4 p 30 #[.int .i64 3, .string ot, .string on, .int .i64 oc, .int .i64 oe, .int .i64 oo, .int .i64 ol] by rw [← hv]; exact HOA.out.alloc _)
              have HXB := Lib.hid (show Bz uB T4 px 32 #[.string ⟨#[]⟩, .string ⟨#[]⟩, .int .i64 0, .int .i64 0, .int .i64 0, .bool false] by rw [← hv]; exact HXA.out.alloc _)
              have HYB := Lib.hid (show Bz uB T4 py 32 #[.string ⟨#[]⟩, .string ⟨#[]⟩, .int .i64 0, .int .i64 0, .int .i64 0, .bool false] by rw [← hv]; exact HYA.out.alloc _)
              try dsimp only
              rw [hv]
              try rw [hq]
              clear hv hq
              clear d0 d1 d2 d3 d4 d5 d6
              have d0 : uB.cell? ⟨p, 0, none⟩ = some (.int .i64 3) := HOB.out.b.cell 0
              have d1 : uB.cell? ⟨p, 1, none⟩ = some (.string ot) := HOB.out.b.cell 1
              have d2 : uB.cell? ⟨p, 2, none⟩ = some (.string on) := HOB.out.b.cell 2
              have d3 : uB.cell? ⟨p, 3, none⟩ = some (.int .i64 oc) := HOB.out.b.cell 3
              have d4 : uB.cell? ⟨p, 4, none⟩ = some (.int .i64 oe) := HOB.out.b.cell 4
              have d5 : uB.cell? ⟨p, 5, none⟩ = some (.int .i64 oo) := HOB.out.b.cell 5
              have d6 : uB.cell? ⟨p, 6, none⟩ = some (.int .i64 ol) := HOB.out.b.cell 6
              go_upto_region 44 with (go_at_call 28; (with_reducible refine (r_holder HPB.out HPB.out.ok on oo _ _ HH1.out HH2.out).mono ?_); rintro e uC ⟨rfl, hb⟩; have HPC := Lib.hid (HPB.out.on hb); have HXC := Lib.hid (HXB.out.on hb); have HYC := Lib.hid (HYB.out.on hb); have HHC := Lib.hid (HQqh.out.on hb); clear hb)
              obtain ⟨qi, hq⟩ : ∃ q, uC.heap.size = q := ⟨_, rfl⟩
              obtain ⟨uD, hv⟩ : ∃ v, uC.alloc (.cells #[.string vn, .string vt, .int .i64 vc, .int .i64 ve, .int .i64 vu, .bool vh] 32) = v := ⟨_, rfl⟩
              have HPD := Lib.hid (show Pz W uD T4 gb bb g most b2 b2 by rw [← hv]; exact HPC.out.on ((Below.refl _ _).alloc (Nat.le_refl _) _))
              have HQqi := Lib.hid (show Bz uD T4 qi 32 #[.string vn, .string vt, .int .i64 vc, .int .i64 ve, .int .i64 vu, .bool vh] by rw [← hv, ← hq]; exact Bz.new HPC.out.hi _ _)
              have HZqi := Lib.hid (show uC.heap.size = qi ∧ uC.heap.size ≤ uD.heap.size from ⟨hq, by rw [← hv, World.size_alloc]; omega⟩)
              have HXD := Lib.hid (show Bz uD T4 px 32 #[.string ⟨#[]⟩, .string ⟨#[]⟩, .int .i64 0, .int .i64 0, .int .i64 0, .bool false] by rw [← hv]; exact HXC.out.alloc _)
              have HYD := Lib.hid (show Bz uD T4 py 32 #[.string ⟨#[]⟩, .string ⟨#[]⟩, .int .i64 0, .int .i64 0, .int .i64 0, .bool false] by rw [← hv]; exact HYC.out.alloc _)
              have HHD2 := Lib.hid (show Bz uD T4 qh 32 #[.string vn, .string vt, .int .i64 vc, .int .i64 ve, .int .i64 vu, .bool vh] by rw [← hv]; exact HHC.out.alloc _)
              try dsimp only
              rw [hv]
              try rw [hq]
              clear hv hq
              clear d0 d1 d2 d3 d4 d5 d6
              obtain ⟨Ar, cr, hr1, hr2⟩ := HPD.out.row
              obtain ⟨k, hk⟩ : ∃ k, b2.l.length = k := ⟨_, rfl⟩
              have HK := Lib.hid hk
              have hk64 : k ≤ 64 := by rw [← hk]; exact HPD.out.ok.few
              rw [hk] at hr1
              have HRB := Lib.hid hr1
              have HRR := Lib.hid hr2
              have HSS := Lib.hid (show ∀ u, Below uD.heap.size uD u → Bk u px 32 #[.string ⟨#[]⟩, .string ⟨#[]⟩, .int .i64 0, .int .i64 0, .int .i64 0, .bool false] ∧ Bk u py 32 #[.string ⟨#[]⟩, .string ⟨#[]⟩, .int .i64 0, .int .i64 0, .int .i64 0, .bool false] ∧ Bk u qh 32 #[.string vn, .string vt, .int .i64 vc, .int .i64 ve, .int .i64 vu, .bool vh] ∧ Bk u qi 32 #[.string vn, .string vt, .int .i64 vc, .int .i64 ve, .int .i64 vu, .bool vh] ∧ Bk u bb 46 (bkc Ar k cr g most b2.nx) from fun u hb => ⟨HXD.out.b.below hb HXD.out.b.lt, HYD.out.b.below hb HYD.out.b.lt, HHD2.out.b.below hb HHD2.out.b.lt, HQqi.out.b.below hb HQqi.out.b.lt, HRB.out.below hb HRB.out.lt⟩)
              clear hk hr1 hr2
              try simp only [List.cons_append, List.nil_append]
              refine wp_region_held_drew (S := fun wz => Bk wz px 32 #[.string ⟨#[]⟩, .string ⟨#[]⟩, .int .i64 0, .int .i64 0, .int .i64 0, .bool false] ∧ Bk wz py 32 #[.string ⟨#[]⟩, .string ⟨#[]⟩, .int .i64 0, .int .i64 0, .int .i64 0, .bool false] ∧ Bk wz qh 32 #[.string vn, .string vt, .int .i64 vc, .int .i64 ve, .int .i64 vu, .bool vh] ∧ Bk wz qi 32 #[.string vn, .string vt, .int .i64 vc, .int .i64 ve, .int .i64 vu, .bool vh] ∧ Bk wz bb 46 (bkc Ar k cr g most b2.nx)) (by kernel_rfl) (HSS.out _ (Below.refl _ _).drew) (fun hHeld => ?_)
              refine take_at (some 232) (i := 0) (v := ?_) rfl rfl (by kernel_rfl) (by kernel_rfl) (by kernel_rfl) (fun _ _ _ h => h) (Or.inl ⟨by kernel_rfl, ?_⟩) hHeld ?_
              rotate_left
              · intro wz hSw; have x0 : wz.cell? ⟨px, 0, none⟩ = some (.string ⟨#[]⟩) := hSw.1.cell 0; have x1 : wz.cell? ⟨px, 1, none⟩ = some (.string ⟨#[]⟩) := hSw.1.cell 1; have x2 : wz.cell? ⟨px, 2, none⟩ = some (.int .i64 0) := hSw.1.cell 2; have x3 : wz.cell? ⟨px, 3, none⟩ = some (.int .i64 0) := hSw.1.cell 3; have x4 : wz.cell? ⟨px, 4, none⟩ = some (.int .i64 0) := hSw.1.cell 4; have x5 : wz.cell? ⟨px, 5, none⟩ = some (.bool false) := hSw.1.cell 5; go_simp; try (with_reducible rfl)
              try simp only [Act.put, List.setIfInBounds_toArray, List.set_cons_zero, List.set_cons_succ, List.getElem_toArray, List.getElem_cons_succ, List.getElem_cons_zero]
              refine take_at (some 233) (i := 1) (v := ?_) rfl rfl (by kernel_rfl) (by kernel_rfl) (by kernel_rfl) (fun _ _ _ h => h) (Or.inl ⟨by kernel_rfl, ?_⟩) hHeld ?_
              rotate_left
              · intro wz hSw; have y0 : wz.cell? ⟨py, 0, none⟩ = some (.string ⟨#[]⟩) := hSw.2.1.cell 0; have y1 : wz.cell? ⟨py, 1, none⟩ = some (.string ⟨#[]⟩) := hSw.2.1.cell 1; have y2 : wz.cell? ⟨py, 2, none⟩ = some (.int .i64 0) := hSw.2.1.cell 2; have y3 : wz.cell? ⟨py, 3, none⟩ = some (.int .i64 0) := hSw.2.1.cell 3; have y4 : wz.cell? ⟨py, 4, none⟩ = some (.int .i64 0) := hSw.2.1.cell 4; have y5 : wz.cell? ⟨py, 5, none⟩ = some (.bool false) := hSw.2.1.cell 5; go_simp; try (with_reducible rfl)
              try simp only [Act.put, List.setIfInBounds_toArray, List.set_cons_zero, List.set_cons_succ, List.getElem_toArray, List.getElem_cons_succ, List.getElem_cons_zero]
              refine take_at (some 234) (i := 2) rfl rfl (by kernel_rfl) (by kernel_rfl) (by kernel_rfl) (fun _ _ _ h => h) (yieldsIf_nls (by kernel_rfl) (.tmp 232) (.tmp 233) _ rfl ⟨⟨#[]⟩, ⟨#[]⟩, 0, 0, 0, false⟩ rfl rfl) hHeld ?_
              try simp only [Act.put, List.setIfInBounds_toArray, List.set_cons_zero, List.set_cons_succ, List.getElem_toArray, List.getElem_cons_succ, List.getElem_cons_zero]
              refine take_at (some 235) (i := 3) (v := ?_) rfl rfl (by kernel_rfl) (by kernel_rfl) (by kernel_rfl) (fun _ _ _ h => h) (Or.inl ⟨by kernel_rfl, ?_⟩) hHeld ?_
              rotate_left
              · intro wz hSw; go_simp; try (with_reducible rfl)
              try simp only [Act.put, List.setIfInBounds_toArray, List.set_cons_zero, List.set_cons_succ, List.getElem_toArray, List.getElem_cons_succ, List.getElem_cons_zero]
              refine take_at (some 236) (i := 4) (v := ?_) rfl rfl (by kernel_rfl) (by kernel_rfl) (by kernel_rfl) (fun _ _ _ h => h) (Or.inl ⟨by kernel_rfl, ?_⟩) hHeld ?_
              rotate_left
              · intro wz hSw; go_simp; try (with_reducible rfl)
              try simp only [Act.put, List.setIfInBounds_toArray, List.set_cons_zero, List.set_cons_succ, List.getElem_toArray, List.getElem_cons_succ, List.getElem_cons_zero]
              refine take_at (some 237) (i := 5) (v := ?_) rfl rfl (by kernel_rfl) (by kernel_rfl) (by kernel_rfl) (fun _ _ _ h => h) (Or.inl ⟨by kernel_rfl, ?_⟩) hHeld ?_
              rotate_left
              · intro wz hSw; go_simp; try (with_reducible rfl)
              try simp only [Act.put, List.setIfInBounds_toArray, List.set_cons_zero, List.set_cons_succ, List.getElem_toArray, List.getElem_cons_succ, List.getElem_cons_zero]
              refine take_at (some 238) (i := 6) (v := ?_) rfl rfl (by kernel_rfl) (by kernel_rfl) (by kernel_rfl) (fun _ _ _ h => h) (Or.inl ⟨by kernel_rfl, ?_⟩) hHeld ?_
              rotate_left
              · intro wz hSw; go_simp; try (with_reducible rfl)
              try simp only [Act.put, List.setIfInBounds_toArray, List.set_cons_zero, List.set_cons_succ, List.getElem_toArray, List.getElem_cons_succ, List.getElem_cons_zero]
              refine take_at (some 239) (i := 7) (v := ?_) rfl rfl (by kernel_rfl) (by kernel_rfl) (by kernel_rfl) (fun _ _ _ h => h) (Or.inl ⟨by kernel_rfl, ?_⟩) hHeld ?_
              rotate_left
              · intro wz hSw; go_simp; try (with_reducible rfl)
              try simp only [Act.put, List.setIfInBounds_toArray, List.set_cons_zero, List.set_cons_succ, List.getElem_toArray, List.getElem_cons_succ, List.getElem_cons_zero]
              refine take_at (some 240) (i := 8) (v := ?_) rfl rfl (by kernel_rfl) (by kernel_rfl) (by kernel_rfl) (fun _ _ _ h => h) (Or.inl ⟨by kernel_rfl, ?_⟩) hHeld ?_
              rotate_left
              · intro wz hSw; go_simp; try (with_reducible rfl)
              try simp only [Act.put, List.setIfInBounds_toArray, List.set_cons_zero, List.set_cons_succ, List.getElem_toArray, List.getElem_cons_succ, List.getElem_cons_zero]
              refine take_at (some 241) (i := 9) (v := ?_) rfl rfl (by kernel_rfl) (by kernel_rfl) (by kernel_rfl) (fun _ _ _ h => h) (Or.inl ⟨by kernel_rfl, ?_⟩) hHeld ?_
              rotate_left
              · intro wz hSw; have h0 : wz.cell? ⟨qh, 0, none⟩ = some (.string vn) := hSw.2.2.1.cell 0; have h1 : wz.cell? ⟨qh, 1, none⟩ = some (.string vt) := hSw.2.2.1.cell 1; have h2 : wz.cell? ⟨qh, 2, none⟩ = some (.int .i64 vc) := hSw.2.2.1.cell 2; have h3 : wz.cell? ⟨qh, 3, none⟩ = some (.int .i64 ve) := hSw.2.2.1.cell 3; have h4 : wz.cell? ⟨qh, 4, none⟩ = some (.int .i64 vu) := hSw.2.2.1.cell 4; have h5 : wz.cell? ⟨qh, 5, none⟩ = some (.bool vh) := hSw.2.2.1.cell 5; go_simp; try (with_reducible rfl)
              try simp only [Act.put, List.setIfInBounds_toArray, List.set_cons_zero, List.set_cons_succ, List.getElem_toArray, List.getElem_cons_succ, List.getElem_cons_zero]
              refine take_at (some 242) (i := 10) (v := ?_) rfl rfl (by kernel_rfl) (by kernel_rfl) (by kernel_rfl) (fun _ _ _ h => h) (Or.inl ⟨by kernel_rfl, ?_⟩) hHeld ?_
              rotate_left
              · intro wz hSw; have h0 : wz.cell? ⟨qi, 0, none⟩ = some (.string vn) := hSw.2.2.2.1.cell 0; have h1 : wz.cell? ⟨qi, 1, none⟩ = some (.string vt) := hSw.2.2.2.1.cell 1; have h2 : wz.cell? ⟨qi, 2, none⟩ = some (.int .i64 vc) := hSw.2.2.2.1.cell 2; have h3 : wz.cell? ⟨qi, 3, none⟩ = some (.int .i64 ve) := hSw.2.2.2.1.cell 3; have h4 : wz.cell? ⟨qi, 4, none⟩ = some (.int .i64 vu) := hSw.2.2.2.1.cell 4; have h5 : wz.cell? ⟨qi, 5, none⟩ = some (.bool vh) := hSw.2.2.2.1.cell 5; go_simp; try (with_reducible rfl)
              try simp only [Act.put, List.setIfInBounds_toArray, List.set_cons_zero, List.set_cons_succ, List.getElem_toArray, List.getElem_cons_succ, List.getElem_cons_zero]
              refine take_at (some 243) (i := 11) rfl rfl (by kernel_rfl) (by kernel_rfl) (by kernel_rfl) (fun _ _ _ h => h) (yieldsIf_nls (by kernel_rfl) (.tmp 241) (.tmp 242) _ rfl ⟨vn, vt, vc, ve, vu, vh⟩ rfl rfl) hHeld ?_
              try simp only [Act.put, List.setIfInBounds_toArray, List.set_cons_zero, List.set_cons_succ, List.getElem_toArray, List.getElem_cons_succ, List.getElem_cons_zero]
              refine take_at (some 244) (i := 12) (v := ?_) rfl rfl (by kernel_rfl) (by kernel_rfl) (by kernel_rfl) (fun _ _ _ h => h) (Or.inl ⟨by kernel_rfl, ?_⟩) hHeld ?_
              rotate_left
              · intro wz hSw; go_simp; try (with_reducible rfl)
              try simp only [Act.put, List.setIfInBounds_toArray, List.set_cons_zero, List.set_cons_succ, List.getElem_toArray, List.getElem_cons_succ, List.getElem_cons_zero]
              refine take_at (some 245) (i := 13) (v := ?_) rfl rfl (by kernel_rfl) (by kernel_rfl) (by kernel_rfl) (fun _ _ _ h => h) (Or.inl ⟨by kernel_rfl, ?_⟩) hHeld ?_
              rotate_left
              · intro wz hSw; go_simp; try (with_reducible rfl)
              try simp only [Act.put, List.setIfInBounds_toArray, List.set_cons_zero, List.set_cons_succ, List.getElem_toArray, List.getElem_cons_succ, List.getElem_cons_zero]
              refine take_at (some 246) (i := 14) (v := ?_) rfl rfl (by kernel_rfl) (by kernel_rfl) (by kernel_rfl) (fun _ _ _ h => h) (Or.inl ⟨by kernel_rfl, ?_⟩) hHeld ?_
              rotate_left
              · intro wz hSw; go_simp; try (with_reducible rfl)
              try simp only [Act.put, List.setIfInBounds_toArray, List.set_cons_zero, List.set_cons_succ, List.getElem_toArray, List.getElem_cons_succ, List.getElem_cons_zero]
              refine take_at (some 247) (i := 15) (v := ?_) rfl rfl (by kernel_rfl) (by kernel_rfl) (by kernel_rfl) (fun _ _ _ h => h) (Or.inl ⟨by kernel_rfl, ?_⟩) hHeld ?_
              rotate_left
              · intro wz hSw; go_simp; try (with_reducible rfl)
              try simp only [Act.put, List.setIfInBounds_toArray, List.set_cons_zero, List.set_cons_succ, List.getElem_toArray, List.getElem_cons_succ, List.getElem_cons_zero]
              refine take_at (some 248) (i := 16) (v := ?_) rfl rfl (by kernel_rfl) (by kernel_rfl) (by kernel_rfl) (fun _ _ _ h => h) (Or.inl ⟨by kernel_rfl, ?_⟩) hHeld ?_
              rotate_left
              · intro wz hSw; go_simp; try (with_reducible rfl)
              try simp only [Act.put, List.setIfInBounds_toArray, List.set_cons_zero, List.set_cons_succ, List.getElem_toArray, List.getElem_cons_succ, List.getElem_cons_zero]
              refine take_at (some 249) (i := 17) (v := ?_) rfl rfl (by kernel_rfl) (by kernel_rfl) (by kernel_rfl) (fun _ _ _ h => h) (Or.inl ⟨by kernel_rfl, ?_⟩) hHeld ?_
              rotate_left
              · intro wz hSw; go_simp; try (with_reducible rfl)
              try simp only [Act.put, List.setIfInBounds_toArray, List.set_cons_zero, List.set_cons_succ, List.getElem_toArray, List.getElem_cons_succ, List.getElem_cons_zero]
              refine take_at (some 250) (i := 18) (v := ?_) rfl rfl (by kernel_rfl) (by kernel_rfl) (by kernel_rfl) (fun _ _ _ h => h) (Or.inl ⟨by kernel_rfl, ?_⟩) hHeld ?_
              rotate_left
              · intro wz hSw; go_simp; try (with_reducible rfl)
              try simp only [Act.put, List.setIfInBounds_toArray, List.set_cons_zero, List.set_cons_succ, List.getElem_toArray, List.getElem_cons_succ, List.getElem_cons_zero]
              refine take_at (some 251) (i := 19) (v := ?_) rfl rfl (by kernel_rfl) (by kernel_rfl) (by kernel_rfl) (fun _ _ _ h => h) (Or.inl ⟨by kernel_rfl, ?_⟩) hHeld ?_
              rotate_left
              · intro wz hSw; go_simp; try (with_reducible rfl)
              try simp only [Act.put, List.setIfInBounds_toArray, List.set_cons_zero, List.set_cons_succ, List.getElem_toArray, List.getElem_cons_succ, List.getElem_cons_zero]
              refine take_at (some 253) (i := 21) (v := ?_) rfl rfl (by kernel_rfl) (by kernel_rfl) (by kernel_rfl) (fun _ _ _ h => h) (Or.inl ⟨by kernel_rfl, ?_⟩) hHeld ?_
              rotate_left
              · intro wz hSw; go_simp; try (with_reducible rfl)
              try simp only [Act.put, List.setIfInBounds_toArray, List.set_cons_zero, List.set_cons_succ, List.getElem_toArray, List.getElem_cons_succ, List.getElem_cons_zero]
              refine take_at (some 254) (i := 22) (v := ?_) rfl rfl (by kernel_rfl) (by kernel_rfl) (by kernel_rfl) (fun _ _ _ h => h) (Or.inl ⟨by kernel_rfl, ?_⟩) hHeld ?_
              rotate_left
              · intro wz hSw; have e0 : wz.cell? ⟨bb, 0, none⟩ = some (.slice Ar k cr) := hSw.2.2.2.2.cell 0; go_simp; try (with_reducible rfl)
              try simp only [Act.put, List.setIfInBounds_toArray, List.set_cons_zero, List.set_cons_succ, List.getElem_toArray, List.getElem_cons_succ, List.getElem_cons_zero]
              refine take_at (some 255) (i := 23) (v := ?_) rfl rfl (by kernel_rfl) (by kernel_rfl) (by kernel_rfl) (fun _ _ _ h => h) (Or.inl ⟨by kernel_rfl, ?_⟩) hHeld ?_
              rotate_left
              · intro wz hSw; have e0 : wz.cell? ⟨bb, 0, none⟩ = some (.slice Ar k cr) := hSw.2.2.2.2.cell 0; go_simp; try (with_reducible rfl)
              try simp only [Act.put, List.setIfInBounds_toArray, List.set_cons_zero, List.set_cons_succ, List.getElem_toArray, List.getElem_cons_succ, List.getElem_cons_zero]
              refine take_at (some 256) (i := 24) (v := ?_) rfl rfl (by kernel_rfl) (by kernel_rfl) (by kernel_rfl) (fun _ _ _ h => h) (Or.inl ⟨by kernel_rfl, ?_⟩) hHeld ?_
              rotate_left
              · intro wz hSw; have e0 : wz.cell? ⟨bb, 0, none⟩ = some (.slice Ar k cr) := hSw.2.2.2.2.cell 0; go_simp; try (with_reducible rfl)
              try simp only [Act.put, List.setIfInBounds_toArray, List.set_cons_zero, List.set_cons_succ, List.getElem_toArray, List.getElem_cons_succ, List.getElem_cons_zero]
              refine wpAnyH_ready (rs := [20]) (by kernel_rfl) (by simp) (AllReadyH.cons rfl (fun K hK => ?_) AllReadyH.nil)
              rw [if_pos (by kernel_rfl)]
              go_simp
              refine (p_all (HPD.out.on (Below.refl _ _).drew) k HK.out).mono ?_
              rintro e y1 ⟨Aa, ca, rfl, ha, hb1⟩
              try dsimp only
              refine hK.out _ _ (HSS.out y1 ((Below.refl uD.heap.size uD).drew.trans hb1)) (fun hHeld => ?_)
              try simp only [Act.put, List.setIfInBounds_toArray, List.set_cons_zero, List.set_cons_succ, List.getElem_toArray, List.getElem_cons_succ, List.getElem_cons_zero]
              refine wpAnyH_ready (rs := [25]) (by kernel_rfl) (by simp) (AllReadyH.cons rfl (fun K hK => ?_) AllReadyH.nil)
              rw [if_pos (by kernel_rfl)]
              go_simp
              refine (rsame_yes Aa Ar ca cr b2.l y1 k HK.out ha (HRR.out.on ((Below.refl uD.heap.size uD).drew.trans hb1)) (by omega)).mono ?_
              rintro e y2 ⟨rfl, hb2⟩
              try dsimp only
              refine hK.out _ _ (HSS.out y2 (((Below.refl uD.heap.size uD).drew.trans hb1).trans (hb2.mono hb1.size))) (fun hHeld => ?_)
              try simp only [Act.put, List.setIfInBounds_toArray, List.set_cons_zero, List.set_cons_succ, List.getElem_toArray, List.getElem_cons_succ, List.getElem_cons_zero]
              refine take_at (some 258) (i := 26) (v := ?_) rfl rfl (by kernel_rfl) (by kernel_rfl) (by kernel_rfl) (fun _ _ _ h => h) (Or.inl ⟨by kernel_rfl, ?_⟩) hHeld ?_
              rotate_left
              · intro wz hSw; go_simp; try (with_reducible rfl)
              try simp only [Act.put, List.setIfInBounds_toArray, List.set_cons_zero, List.set_cons_succ, List.getElem_toArray, List.getElem_cons_succ, List.getElem_cons_zero]
              refine take_at (some 259) (i := 27) (v := ?_) rfl rfl (by kernel_rfl) (by kernel_rfl) (by kernel_rfl) (fun _ _ _ h => h) (Or.inl ⟨by kernel_rfl, ?_⟩) hHeld ?_
              rotate_left
              · intro wz hSw; go_simp; try (with_reducible rfl)
              try simp only [Act.put, List.setIfInBounds_toArray, List.set_cons_zero, List.set_cons_succ, List.getElem_toArray, List.getElem_cons_succ, List.getElem_cons_zero]
              refine wpAnyH_done (by kernel_rfl) ?_ _
              refine gen_q13 (fun y => Pz W y T4 gb bb g most b2 b2) (HPD.out.on (((Below.refl uD.heap.size uD).drew.trans hb1).trans (hb2.mono hb1.size))) (fun y hy => ?_)
              have HPY := Lib.hid hy
              clear hy hHeld
              go_wp2
              go_roundw
              case rel => exact ⟨i + 1, T4, b2, by omega, by go_num, HPY, HNN⟩
              case measure => simp [intOf]; omega
          have n3 : (ow == 3) = false := by simp [h3]
          by_cases h4 : ow = 4
          · subst h4
            as_aux_lemma =>
              obtain ⟨⟨ev, b2⟩, hR⟩ : ∃ R, evictL b on oo = R := ⟨_, rfl⟩
              have HR0 := Lib.hid (show (evictL b on oo).2 = b2 by rw [hR])
              clear hR h2 n2 h3 n3
              obtain ⟨⟨xn, xt, xc, xe, xu, xh⟩, hE1⟩ : ∃ v, (evictL b on oo).1.getD zeroLs = v := ⟨_, rfl⟩
              obtain ⟨ei, hE2⟩ : ∃ v, (evictL b on oo).1.isSome = v := ⟨_, rfl⟩
              have HE1 := Lib.hid hE1
              have HE2 := Lib.hid hE2
              clear hE1 hE2
              have HNN := Lib.hid (show b2.nx ≤ ((i + 1 : Nat) : Int) + 1 by have h1 := nx_step HP.out.ok (o := ⟨4, ot, on, oc, oe, oo, ol⟩) (show doL g most b ⟨4, ot, on, oc, oe, oo, ol⟩ = (zeroLs, 0, b2) by unfold doL; dsimp only; rw [if_neg (by decide), if_neg (by decide), if_pos rfl, HR0.out]); have h2 := HNI.out; omega)
              have d0 : u1.cell? ⟨p, 0, none⟩ = some (.int .i64 4) := HO1.out.b.cell 0
              have d1 : u1.cell? ⟨p, 1, none⟩ = some (.string ot) := HO1.out.b.cell 1
              have d2 : u1.cell? ⟨p, 2, none⟩ = some (.string on) := HO1.out.b.cell 2
              have d3 : u1.cell? ⟨p, 3, none⟩ = some (.int .i64 oc) := HO1.out.b.cell 3
              have d4 : u1.cell? ⟨p, 4, none⟩ = some (.int .i64 oe) := HO1.out.b.cell 4
              have d5 : u1.cell? ⟨p, 5, none⟩ = some (.int .i64 oo) := HO1.out.b.cell 5
              have d6 : u1.cell? ⟨p, 6, none⟩ = some (.int .i64 ol) := HO1.out.b.cell 6
              go_upto_region 31 with (go_at_call 18; (with_reducible refine (p_evict HP1.out on oo HSQ.out.2 _ _ b2 HE1.out HE2.out HR0.out).mono ?_); rintro e u2 ⟨T2, rfl, h1, h2⟩; have HP2 := Lib.hid h1; have HS2 := Lib.hid h2; clear h1 h2)
              have HO2 := Lib.hid (HO1.out.step HS2.out)
              have HX2 := Lib.hid (HX1.out.step HS2.out)
              have HY2 := Lib.hid (HY1.out.step HS2.out)
              obtain ⟨qa, hq⟩ : ∃ q, u2.heap.size = q := ⟨_, rfl⟩
              obtain ⟨u3, hv⟩ : ∃ v, u2.alloc (.cells #[.string xn, .string xt, .int .i64 xc, .int .i64 xe, .int .i64 xu, .bool xh] 32) = v := ⟨_, rfl⟩
              have HP3 := Lib.hid (show Pz W u3 T2 gb bb g most b2 b by rw [← hv]; exact HP2.out.on ((Below.refl _ _).alloc (Nat.le_refl _) _))
              have HQqa := Lib.hid (show Bz u3 T2 qa 32 #[.string xn, .string xt, .int .i64 xc, .int .i64 xe, .int .i64 xu, .bool xh] by rw [← hv, ← hq]; exact Bz.new HP2.out.hi _ _)
              have HZqa := Lib.hid (show u2.heap.size = qa ∧ u2.heap.size ≤ u3.heap.size from ⟨hq, by rw [← hv, World.size_alloc]; omega⟩)
              have HO3 := Lib.hid (show Bz u3 T2 p 30 #[.int .i64 4, .string ot, .string on, .int .i64 oc, .int .i64 oe, .int .i64 oo, .int .i64 ol] by rw [← hv]; exact HO2.out.alloc _)
              have HX3 := Lib.hid (show Bz u3 T2 px 32 #[.string ⟨#[]⟩, .string ⟨#[]⟩, .int .i64 0, .int .i64 0, .int .i64 0, .bool false] by rw [← hv]; exact HX2.out.alloc _)
              have HY3 := Lib.hid (show Bz u3 T2 py 32 #[.string ⟨#[]⟩, .string ⟨#[]⟩, .int .i64 0, .int .i64 0, .int .i64 0, .bool false] by rw [← hv]; exact HY2.out.alloc _)
              try dsimp only
              rw [hv]
              try rw [hq]
              clear hv hq
              clear d0 d1 d2 d3 d4 d5 d6
              have d0 : u3.cell? ⟨p, 0, none⟩ = some (.int .i64 4) := HO3.out.b.cell 0
              have d1 : u3.cell? ⟨p, 1, none⟩ = some (.string ot) := HO3.out.b.cell 1
              have d2 : u3.cell? ⟨p, 2, none⟩ = some (.string on) := HO3.out.b.cell 2
              have d3 : u3.cell? ⟨p, 3, none⟩ = some (.int .i64 oc) := HO3.out.b.cell 3
              have d4 : u3.cell? ⟨p, 4, none⟩ = some (.int .i64 oe) := HO3.out.b.cell 4
              have d5 : u3.cell? ⟨p, 5, none⟩ = some (.int .i64 oo) := HO3.out.b.cell 5
              have d6 : u3.cell? ⟨p, 6, none⟩ = some (.int .i64 ol) := HO3.out.b.cell 6
              go_upto_region 32 with (go_at_call 19; (with_reducible refine (r_evict HP3.out HGK.out on oo _ _ b2 HE1.out HE2.out HR0.out).mono ?_); rintro e u4 ⟨T4, rfl, h1, h2⟩; have HP4 := Lib.hid h1; have HS4 := Lib.hid h2; clear h1 h2)
              have HO4 := Lib.hid (HO3.out.step HS4.out)
              have HX4 := Lib.hid (HX3.out.step HS4.out)
              have HY4 := Lib.hid (HY3.out.step HS4.out)
              have HQ4 := Lib.hid (HQqa.out.step HS4.out)
              obtain ⟨qb, hq⟩ : ∃ q, u4.heap.size = q := ⟨_, rfl⟩
              obtain ⟨u5, hv⟩ : ∃ v, u4.alloc (.cells #[.string xn, .string xt, .int .i64 xc, .int .i64 xe, .int .i64 xu, .bool xh] 32) = v := ⟨_, rfl⟩
              have HP5 := Lib.hid (show Pz W u5 T4 gb bb g most b2 b2 by rw [← hv]; exact HP4.out.on ((Below.refl _ _).alloc (Nat.le_refl _) _))
              have HQqb := Lib.hid (show Bz u5 T4 qb 32 #[.string xn, .string xt, .int .i64 xc, .int .i64 xe, .int .i64 xu, .bool xh] by rw [← hv, ← hq]; exact Bz.new HP4.out.hi _ _)
              have HZqb := Lib.hid (show u4.heap.size = qb ∧ u4.heap.size ≤ u5.heap.size from ⟨hq, by rw [← hv, World.size_alloc]; omega⟩)
              have HO5 := Lib.hid (show Bz u5 T4 p 30 #[.int .i64 4, .string ot, .string on, .int .i64 oc, .int .i64 oe, .int .i64 oo, .int .i64 ol] by rw [← hv]; exact HO4.out.alloc _)
              have HX5 := Lib.hid (show Bz u5 T4 px 32 #[.string ⟨#[]⟩, .string ⟨#[]⟩, .int .i64 0, .int .i64 0, .int .i64 0, .bool false] by rw [← hv]; exact HX4.out.alloc _)
              have HY5 := Lib.hid (show Bz u5 T4 py 32 #[.string ⟨#[]⟩, .string ⟨#[]⟩, .int .i64 0, .int .i64 0, .int .i64 0, .bool false] by rw [← hv]; exact HY4.out.alloc _)
              have HQ5 := Lib.hid (show Bz u5 T4 qa 32 #[.string xn, .string xt, .int .i64 xc, .int .i64 xe, .int .i64 xu, .bool xh] by rw [← hv]; exact HQ4.out.alloc _)
              try dsimp only
              rw [hv]
              try rw [hq]
              clear hv hq
              clear d0 d1 d2 d3 d4 d5 d6
              have HQB := Lib.hid (show p + 3 ≤ qb by have h1 := HS2.out.k.size; have h2 := HZqa.out; have h3 := HS4.out.k.size; have h4 := HZqb.out; have h5 := HPP.out; omega)
              have HQL := Lib.hid (show qb ≠ py ∧ qb ≠ px from by have := HQB.out; have := HPP.out; omega)
              have y0 : u5.cell? ⟨qa, 0, none⟩ = some (.string xn) := HQ5.out.b.cell 0
              have y1 : u5.cell? ⟨qa, 1, none⟩ = some (.string xt) := HQ5.out.b.cell 1
              have y2 : u5.cell? ⟨qa, 2, none⟩ = some (.int .i64 xc) := HQ5.out.b.cell 2
              have y3 : u5.cell? ⟨qa, 3, none⟩ = some (.int .i64 xe) := HQ5.out.b.cell 3
              have y4 : u5.cell? ⟨qa, 4, none⟩ = some (.int .i64 xu) := HQ5.out.b.cell 4
              have y5 : u5.cell? ⟨qa, 5, none⟩ = some (.bool xh) := HQ5.out.b.cell 5
              have k0 := HQ5.out.b.frozen 0
              have k1 := HQ5.out.b.frozen 1
              have k2 := HQ5.out.b.frozen 2
              have k3 := HQ5.out.b.frozen 3
              have k4 := HQ5.out.b.frozen 4
              have k5 := HQ5.out.b.frozen 5
              have z0 : u5.cell? ⟨px, 0, none⟩ = some (.string ⟨#[]⟩) := HX5.out.b.cell 0
              have z1 : u5.cell? ⟨px, 1, none⟩ = some (.string ⟨#[]⟩) := HX5.out.b.cell 1
              have z2 : u5.cell? ⟨px, 2, none⟩ = some (.int .i64 0) := HX5.out.b.cell 2
              have z3 : u5.cell? ⟨px, 3, none⟩ = some (.int .i64 0) := HX5.out.b.cell 3
              have z4 : u5.cell? ⟨px, 4, none⟩ = some (.int .i64 0) := HX5.out.b.cell 4
              have z5 : u5.cell? ⟨px, 5, none⟩ = some (.bool false) := HX5.out.b.cell 5
              have m0 := HX5.out.b.frozen 0
              have m1 := HX5.out.b.frozen 1
              have m2 := HX5.out.b.frozen 2
              have m3 := HX5.out.b.frozen 3
              have m4 := HX5.out.b.frozen 4
              have m5 := HX5.out.b.frozen 5
              go_upto_region 35 with fail
              obtain ⟨u6, hu4⟩ : ∃ v, Proofs.Ytpbobmiajjgekaa.set6 u5 px (.string xn) (.string xt) (.int .i64 xc) (.int .i64 xe) (.int .i64 xu) (.bool xh) = v := ⟨_, rfl⟩
              have hu4' := hu4
              try unfold Proofs.Ytpbobmiajjgekaa.set6 at hu4'
              have hpx := HPP.out
              have HW6 := Lib.hid (show W.heap.size ≤ px ∧ W.heap.size ≤ py by omega)
              have HP6 := Lib.hid (show Pz W u6 T4 gb bb g most b2 b2 by rw [← hu4]; exact HP5.out.set6 HX5.out.n HW6.out.1 _ _ _ _ _ _)
              have HX6 := Lib.hid (show Bz u6 T4 px 32 #[.string xn, .string xt, .int .i64 xc, .int .i64 xe, .int .i64 xu, .bool xh] from ⟨by rw [← hu4]; exact HX5.out.b.set6 _ _ _ _ _ _, HX5.out.n⟩)
              have HY6 := Lib.hid (show Bz u6 T4 py 32 #[.string ⟨#[]⟩, .string ⟨#[]⟩, .int .i64 0, .int .i64 0, .int .i64 0, .bool false] from ⟨by rw [← hu4]; exact HY5.out.b.set6Far (by omega) _ _ _ _ _ _, HY5.out.n⟩)
              have HO6 := Lib.hid (show Bz u6 T4 p 30 #[.int .i64 4, .string ot, .string on, .int .i64 oc, .int .i64 oe, .int .i64 oo, .int .i64 ol] from ⟨by rw [← hu4]; exact HO5.out.b.set6Far (by omega) _ _ _ _ _ _, HO5.out.n⟩)
              have HB6 := Lib.hid (show Bz u6 T4 qb 32 #[.string xn, .string xt, .int .i64 xc, .int .i64 xe, .int .i64 xu, .bool xh] from ⟨by rw [← hu4]; exact HQqb.out.b.set6Far (fun e => HQL.out.2 e.symm) _ _ _ _ _ _, HQqb.out.n⟩)
              clear hpx
              try rw [hu4']
              try rw [hu4]
              clear hu4 hu4'
              clear y0 y1 y2 y3 y4 y5 k0 k1 k2 k3 k4 k5
              clear z0 z1 z2 z3 z4 z5 m0 m1 m2 m3 m4 m5
              have y0 : u6.cell? ⟨qb, 0, none⟩ = some (.string xn) := HB6.out.b.cell 0
              have y1 : u6.cell? ⟨qb, 1, none⟩ = some (.string xt) := HB6.out.b.cell 1
              have y2 : u6.cell? ⟨qb, 2, none⟩ = some (.int .i64 xc) := HB6.out.b.cell 2
              have y3 : u6.cell? ⟨qb, 3, none⟩ = some (.int .i64 xe) := HB6.out.b.cell 3
              have y4 : u6.cell? ⟨qb, 4, none⟩ = some (.int .i64 xu) := HB6.out.b.cell 4
              have y5 : u6.cell? ⟨qb, 5, none⟩ = some (.bool xh) := HB6.out.b.cell 5
              have k0 := HB6.out.b.frozen 0
              have k1 := HB6.out.b.frozen 1
              have k2 := HB6.out.b.frozen 2
              have k3 := HB6.out.b.frozen 3
              have k4 := HB6.out.b.frozen 4
              have k5 := HB6.out.b.frozen 5
              have z0 : u6.cell? ⟨py, 0, none⟩ = some (.string ⟨#[]⟩) := HY6.out.b.cell 0
              have z1 : u6.cell? ⟨py, 1, none⟩ = some (.string ⟨#[]⟩) := HY6.out.b.cell 1
              have z2 : u6.cell? ⟨py, 2, none⟩ = some (.int .i64 0) := HY6.out.b.cell 2
              have z3 : u6.cell? ⟨py, 3, none⟩ = some (.int .i64 0) := HY6.out.b.cell 3
              have z4 : u6.cell? ⟨py, 4, none⟩ = some (.int .i64 0) := HY6.out.b.cell 4
              have z5 : u6.cell? ⟨py, 5, none⟩ = some (.bool false) := HY6.out.b.cell 5
              have m0 := HY6.out.b.frozen 0
              have m1 := HY6.out.b.frozen 1
              have m2 := HY6.out.b.frozen 2
              have m3 := HY6.out.b.frozen 3
              have m4 := HY6.out.b.frozen 4
              have m5 := HY6.out.b.frozen 5
              go_upto_region 42 with fail
              obtain ⟨u7, hu4⟩ : ∃ v, Proofs.Ytpbobmiajjgekaa.set6 u6 py (.string xn) (.string xt) (.int .i64 xc) (.int .i64 xe) (.int .i64 xu) (.bool xh) = v := ⟨_, rfl⟩
              have hu4' := hu4
              try unfold Proofs.Ytpbobmiajjgekaa.set6 at hu4'
              have hpx := HPP.out
              have HPT := Lib.hid (show Pz W u7 T4 gb bb g most b2 b2 by rw [← hu4]; exact HP6.out.set6 HY6.out.n HW6.out.2 _ _ _ _ _ _)
              have HYT := Lib.hid (show Bz u7 T4 py 32 #[.string xn, .string xt, .int .i64 xc, .int .i64 xe, .int .i64 xu, .bool xh] from ⟨by rw [← hu4]; exact HY6.out.b.set6 _ _ _ _ _ _, HY6.out.n⟩)
              have HXT := Lib.hid (show Bz u7 T4 px 32 #[.string xn, .string xt, .int .i64 xc, .int .i64 xe, .int .i64 xu, .bool xh] from ⟨by rw [← hu4]; exact HX6.out.b.set6Far (by omega) _ _ _ _ _ _, HX6.out.n⟩)
              have HOT := Lib.hid (show Bz u7 T4 p 30 #[.int .i64 4, .string ot, .string on, .int .i64 oc, .int .i64 oe, .int .i64 oo, .int .i64 ol] from ⟨by rw [← hu4]; exact HO6.out.b.set6Far (by omega) _ _ _ _ _ _, HO6.out.n⟩)
              clear hpx
              try rw [hu4']
              try rw [hu4]
              clear hu4 hu4'
              clear y0 y1 y2 y3 y4 y5 k0 k1 k2 k3 k4 k5
              clear z0 z1 z2 z3 z4 z5 m0 m1 m2 m3 m4 m5
              have d0 : u7.cell? ⟨p, 0, none⟩ = some (.int .i64 4) := HOT.out.b.cell 0
              have d1 : u7.cell? ⟨p, 1, none⟩ = some (.string ot) := HOT.out.b.cell 1
              have d2 : u7.cell? ⟨p, 2, none⟩ = some (.string on) := HOT.out.b.cell 2
              have d3 : u7.cell? ⟨p, 3, none⟩ = some (.int .i64 oc) := HOT.out.b.cell 3
              have d4 : u7.cell? ⟨p, 4, none⟩ = some (.int .i64 oe) := HOT.out.b.cell 4
              have d5 : u7.cell? ⟨p, 5, none⟩ = some (.int .i64 oo) := HOT.out.b.cell 5
              have d6 : u7.cell? ⟨p, 6, none⟩ = some (.int .i64 ol) := HOT.out.b.cell 6
              obtain ⟨⟨vn, vt, vc, ve, vu, vh⟩, hhv⟩ : ∃ v, (holdL b2 on oo).getD zeroLs = v := ⟨_, rfl⟩
              obtain ⟨hs, hhs⟩ : ∃ v, (holdL b2 on oo).isSome = v := ⟨_, rfl⟩
              have HH1 := Lib.hid hhv
              have HH2 := Lib.hid hhs
              clear hhv hhs
              go_upto_region 43 with (go_at_call 27; (with_reducible refine (p_holder HPT.out on oo HSQ.out.2 _ _ HH1.out HH2.out).mono ?_); rintro e uA ⟨rfl, hb⟩; have HPA := Lib.hid (HPT.out.on hb); have HXA := Lib.hid (HXT.out.on hb); have HYA := Lib.hid (HYT.out.on hb); have HOA := Lib.hid (HOT.out.on hb); clear hb)
              obtain ⟨qh, hq⟩ : ∃ q, uA.heap.size = q := ⟨_, rfl⟩
              obtain ⟨uB, hv⟩ : ∃ v, uA.alloc (.cells #[.string vn, .string vt, .int .i64 vc, .int .i64 ve, .int .i64 vu, .bool vh] 32) = v := ⟨_, rfl⟩
              have HPB := Lib.hid (show Pz W uB T4 gb bb g most b2 b2 by rw [← hv]; exact HPA.out.on ((Below.refl _ _).alloc (Nat.le_refl _) _))
              have HQqh := Lib.hid (show Bz uB T4 qh 32 #[.string vn, .string vt, .int .i64 vc, .int .i64 ve, .int .i64 vu, .bool vh] by rw [← hv, ← hq]; exact Bz.new HPA.out.hi _ _)
              have HZqh := Lib.hid (show uA.heap.size = qh ∧ uA.heap.size ≤ uB.heap.size from ⟨hq, by rw [← hv, World.size_alloc]; omega⟩)
              have HOB := Lib.hid (show Bz uB T4 p 30 #[.int .i64 4, .string ot, .string on, .int .i64 oc, .int .i64 oe, .int .i64 oo, .int .i64 ol] by rw [← hv]; exact HOA.out.alloc _)
              have HXB := Lib.hid (show Bz uB T4 px 32 #[.string xn, .string xt, .int .i64 xc, .int .i64 xe, .int .i64 xu, .bool xh] by rw [← hv]; exact HXA.out.alloc _)
              have HYB := Lib.hid (show Bz uB T4 py 32 #[.string xn, .string xt, .int .i64 xc, .int .i64 xe, .int .i64 xu, .bool xh] by rw [← hv]; exact HYA.out.alloc _)
              try dsimp only
              rw [hv]
              try rw [hq]
              clear hv hq
              clear d0 d1 d2 d3 d4 d5 d6
              have d0 : uB.cell? ⟨p, 0, none⟩ = some (.int .i64 4) := HOB.out.b.cell 0
              have d1 : uB.cell? ⟨p, 1, none⟩ = some (.string ot) := HOB.out.b.cell 1
              have d2 : uB.cell? ⟨p, 2, none⟩ = some (.string on) := HOB.out.b.cell 2
              have d3 : uB.cell? ⟨p, 3, none⟩ = some (.int .i64 oc) := HOB.out.b.cell 3
              have d4 : uB.cell? ⟨p, 4, none⟩ = some (.int .i64 oe) := HOB.out.b.cell 4
              have d5 : uB.cell? ⟨p, 5, none⟩ = some (.int .i64 oo) := HOB.out.b.cell 5
              have d6 : uB.cell? ⟨p, 6, none⟩ = some (.int .i64 ol) := HOB.out.b.cell 6
              go_upto_region 44 with (go_at_call 28; (with_reducible refine (r_holder HPB.out HPB.out.ok on oo _ _ HH1.out HH2.out).mono ?_); rintro e uC ⟨rfl, hb⟩; have HPC := Lib.hid (HPB.out.on hb); have HXC := Lib.hid (HXB.out.on hb); have HYC := Lib.hid (HYB.out.on hb); have HHC := Lib.hid (HQqh.out.on hb); clear hb)
              obtain ⟨qi, hq⟩ : ∃ q, uC.heap.size = q := ⟨_, rfl⟩
              obtain ⟨uD, hv⟩ : ∃ v, uC.alloc (.cells #[.string vn, .string vt, .int .i64 vc, .int .i64 ve, .int .i64 vu, .bool vh] 32) = v := ⟨_, rfl⟩
              have HPD := Lib.hid (show Pz W uD T4 gb bb g most b2 b2 by rw [← hv]; exact HPC.out.on ((Below.refl _ _).alloc (Nat.le_refl _) _))
              have HQqi := Lib.hid (show Bz uD T4 qi 32 #[.string vn, .string vt, .int .i64 vc, .int .i64 ve, .int .i64 vu, .bool vh] by rw [← hv, ← hq]; exact Bz.new HPC.out.hi _ _)
              have HZqi := Lib.hid (show uC.heap.size = qi ∧ uC.heap.size ≤ uD.heap.size from ⟨hq, by rw [← hv, World.size_alloc]; omega⟩)
              have HXD := Lib.hid (show Bz uD T4 px 32 #[.string xn, .string xt, .int .i64 xc, .int .i64 xe, .int .i64 xu, .bool xh] by rw [← hv]; exact HXC.out.alloc _)
              have HYD := Lib.hid (show Bz uD T4 py 32 #[.string xn, .string xt, .int .i64 xc, .int .i64 xe, .int .i64 xu, .bool xh] by rw [← hv]; exact HYC.out.alloc _)
              have HHD2 := Lib.hid (show Bz uD T4 qh 32 #[.string vn, .string vt, .int .i64 vc, .int .i64 ve, .int .i64 vu, .bool vh] by rw [← hv]; exact HHC.out.alloc _)
              try dsimp only
              rw [hv]
              try rw [hq]
              clear hv hq
              clear d0 d1 d2 d3 d4 d5 d6
              obtain ⟨Ar, cr, hr1, hr2⟩ := HPD.out.row
              obtain ⟨k, hk⟩ : ∃ k, b2.l.length = k := ⟨_, rfl⟩
              have HK := Lib.hid hk
              have hk64 : k ≤ 64 := by rw [← hk]; exact HPD.out.ok.few
              rw [hk] at hr1
              have HRB := Lib.hid hr1
              have HRR := Lib.hid hr2
              have HSS := Lib.hid (show ∀ u, Below uD.heap.size uD u → Bk u px 32 #[.string xn, .string xt, .int .i64 xc, .int .i64 xe, .int .i64 xu, .bool xh] ∧ Bk u py 32 #[.string xn, .string xt, .int .i64 xc, .int .i64 xe, .int .i64 xu, .bool xh] ∧ Bk u qh 32 #[.string vn, .string vt, .int .i64 vc, .int .i64 ve, .int .i64 vu, .bool vh] ∧ Bk u qi 32 #[.string vn, .string vt, .int .i64 vc, .int .i64 ve, .int .i64 vu, .bool vh] ∧ Bk u bb 46 (bkc Ar k cr g most b2.nx) from fun u hb => ⟨HXD.out.b.below hb HXD.out.b.lt, HYD.out.b.below hb HYD.out.b.lt, HHD2.out.b.below hb HHD2.out.b.lt, HQqi.out.b.below hb HQqi.out.b.lt, HRB.out.below hb HRB.out.lt⟩)
              clear hk hr1 hr2
              try simp only [List.cons_append, List.nil_append]
              refine wp_region_held_drew (S := fun wz => Bk wz px 32 #[.string xn, .string xt, .int .i64 xc, .int .i64 xe, .int .i64 xu, .bool xh] ∧ Bk wz py 32 #[.string xn, .string xt, .int .i64 xc, .int .i64 xe, .int .i64 xu, .bool xh] ∧ Bk wz qh 32 #[.string vn, .string vt, .int .i64 vc, .int .i64 ve, .int .i64 vu, .bool vh] ∧ Bk wz qi 32 #[.string vn, .string vt, .int .i64 vc, .int .i64 ve, .int .i64 vu, .bool vh] ∧ Bk wz bb 46 (bkc Ar k cr g most b2.nx)) (by kernel_rfl) (HSS.out _ (Below.refl _ _).drew) (fun hHeld => ?_)
              refine take_at (some 232) (i := 0) (v := ?_) rfl rfl (by kernel_rfl) (by kernel_rfl) (by kernel_rfl) (fun _ _ _ h => h) (Or.inl ⟨by kernel_rfl, ?_⟩) hHeld ?_
              rotate_left
              · intro wz hSw; have x0 : wz.cell? ⟨px, 0, none⟩ = some (.string xn) := hSw.1.cell 0; have x1 : wz.cell? ⟨px, 1, none⟩ = some (.string xt) := hSw.1.cell 1; have x2 : wz.cell? ⟨px, 2, none⟩ = some (.int .i64 xc) := hSw.1.cell 2; have x3 : wz.cell? ⟨px, 3, none⟩ = some (.int .i64 xe) := hSw.1.cell 3; have x4 : wz.cell? ⟨px, 4, none⟩ = some (.int .i64 xu) := hSw.1.cell 4; have x5 : wz.cell? ⟨px, 5, none⟩ = some (.bool xh) := hSw.1.cell 5; go_simp; try (with_reducible rfl)
              try simp only [Act.put, List.setIfInBounds_toArray, List.set_cons_zero, List.set_cons_succ, List.getElem_toArray, List.getElem_cons_succ, List.getElem_cons_zero]
              refine take_at (some 233) (i := 1) (v := ?_) rfl rfl (by kernel_rfl) (by kernel_rfl) (by kernel_rfl) (fun _ _ _ h => h) (Or.inl ⟨by kernel_rfl, ?_⟩) hHeld ?_
              rotate_left
              · intro wz hSw; have y0 : wz.cell? ⟨py, 0, none⟩ = some (.string xn) := hSw.2.1.cell 0; have y1 : wz.cell? ⟨py, 1, none⟩ = some (.string xt) := hSw.2.1.cell 1; have y2 : wz.cell? ⟨py, 2, none⟩ = some (.int .i64 xc) := hSw.2.1.cell 2; have y3 : wz.cell? ⟨py, 3, none⟩ = some (.int .i64 xe) := hSw.2.1.cell 3; have y4 : wz.cell? ⟨py, 4, none⟩ = some (.int .i64 xu) := hSw.2.1.cell 4; have y5 : wz.cell? ⟨py, 5, none⟩ = some (.bool xh) := hSw.2.1.cell 5; go_simp; try (with_reducible rfl)
              try simp only [Act.put, List.setIfInBounds_toArray, List.set_cons_zero, List.set_cons_succ, List.getElem_toArray, List.getElem_cons_succ, List.getElem_cons_zero]
              refine take_at (some 234) (i := 2) rfl rfl (by kernel_rfl) (by kernel_rfl) (by kernel_rfl) (fun _ _ _ h => h) (yieldsIf_nls (by kernel_rfl) (.tmp 232) (.tmp 233) _ rfl ⟨xn, xt, xc, xe, xu, xh⟩ rfl rfl) hHeld ?_
              try simp only [Act.put, List.setIfInBounds_toArray, List.set_cons_zero, List.set_cons_succ, List.getElem_toArray, List.getElem_cons_succ, List.getElem_cons_zero]
              refine take_at (some 235) (i := 3) (v := ?_) rfl rfl (by kernel_rfl) (by kernel_rfl) (by kernel_rfl) (fun _ _ _ h => h) (Or.inl ⟨by kernel_rfl, ?_⟩) hHeld ?_
              rotate_left
              · intro wz hSw; go_simp; try (with_reducible rfl)
              try simp only [Act.put, List.setIfInBounds_toArray, List.set_cons_zero, List.set_cons_succ, List.getElem_toArray, List.getElem_cons_succ, List.getElem_cons_zero]
              refine take_at (some 236) (i := 4) (v := ?_) rfl rfl (by kernel_rfl) (by kernel_rfl) (by kernel_rfl) (fun _ _ _ h => h) (Or.inl ⟨by kernel_rfl, ?_⟩) hHeld ?_
              rotate_left
              · intro wz hSw; go_simp; try (with_reducible rfl)
              try simp only [Act.put, List.setIfInBounds_toArray, List.set_cons_zero, List.set_cons_succ, List.getElem_toArray, List.getElem_cons_succ, List.getElem_cons_zero]
              refine take_at (some 237) (i := 5) (v := ?_) rfl rfl (by kernel_rfl) (by kernel_rfl) (by kernel_rfl) (fun _ _ _ h => h) (Or.inl ⟨by kernel_rfl, ?_⟩) hHeld ?_
              rotate_left
              · intro wz hSw; go_simp; try (with_reducible rfl)
              try simp only [Act.put, List.setIfInBounds_toArray, List.set_cons_zero, List.set_cons_succ, List.getElem_toArray, List.getElem_cons_succ, List.getElem_cons_zero]
              refine take_at (some 238) (i := 6) (v := ?_) rfl rfl (by kernel_rfl) (by kernel_rfl) (by kernel_rfl) (fun _ _ _ h => h) (Or.inl ⟨by kernel_rfl, ?_⟩) hHeld ?_
              rotate_left
              · intro wz hSw; go_simp; try (with_reducible rfl)
              try simp only [Act.put, List.setIfInBounds_toArray, List.set_cons_zero, List.set_cons_succ, List.getElem_toArray, List.getElem_cons_succ, List.getElem_cons_zero]
              refine take_at (some 239) (i := 7) (v := ?_) rfl rfl (by kernel_rfl) (by kernel_rfl) (by kernel_rfl) (fun _ _ _ h => h) (Or.inl ⟨by kernel_rfl, ?_⟩) hHeld ?_
              rotate_left
              · intro wz hSw; go_simp; try (with_reducible rfl)
              try simp only [Act.put, List.setIfInBounds_toArray, List.set_cons_zero, List.set_cons_succ, List.getElem_toArray, List.getElem_cons_succ, List.getElem_cons_zero]
              refine take_at (some 240) (i := 8) (v := ?_) rfl rfl (by kernel_rfl) (by kernel_rfl) (by kernel_rfl) (fun _ _ _ h => h) (Or.inl ⟨by kernel_rfl, ?_⟩) hHeld ?_
              rotate_left
              · intro wz hSw; go_simp; try (with_reducible rfl)
              try simp only [Act.put, List.setIfInBounds_toArray, List.set_cons_zero, List.set_cons_succ, List.getElem_toArray, List.getElem_cons_succ, List.getElem_cons_zero]
              refine take_at (some 241) (i := 9) (v := ?_) rfl rfl (by kernel_rfl) (by kernel_rfl) (by kernel_rfl) (fun _ _ _ h => h) (Or.inl ⟨by kernel_rfl, ?_⟩) hHeld ?_
              rotate_left
              · intro wz hSw; have h0 : wz.cell? ⟨qh, 0, none⟩ = some (.string vn) := hSw.2.2.1.cell 0; have h1 : wz.cell? ⟨qh, 1, none⟩ = some (.string vt) := hSw.2.2.1.cell 1; have h2 : wz.cell? ⟨qh, 2, none⟩ = some (.int .i64 vc) := hSw.2.2.1.cell 2; have h3 : wz.cell? ⟨qh, 3, none⟩ = some (.int .i64 ve) := hSw.2.2.1.cell 3; have h4 : wz.cell? ⟨qh, 4, none⟩ = some (.int .i64 vu) := hSw.2.2.1.cell 4; have h5 : wz.cell? ⟨qh, 5, none⟩ = some (.bool vh) := hSw.2.2.1.cell 5; go_simp; try (with_reducible rfl)
              try simp only [Act.put, List.setIfInBounds_toArray, List.set_cons_zero, List.set_cons_succ, List.getElem_toArray, List.getElem_cons_succ, List.getElem_cons_zero]
              refine take_at (some 242) (i := 10) (v := ?_) rfl rfl (by kernel_rfl) (by kernel_rfl) (by kernel_rfl) (fun _ _ _ h => h) (Or.inl ⟨by kernel_rfl, ?_⟩) hHeld ?_
              rotate_left
              · intro wz hSw; have h0 : wz.cell? ⟨qi, 0, none⟩ = some (.string vn) := hSw.2.2.2.1.cell 0; have h1 : wz.cell? ⟨qi, 1, none⟩ = some (.string vt) := hSw.2.2.2.1.cell 1; have h2 : wz.cell? ⟨qi, 2, none⟩ = some (.int .i64 vc) := hSw.2.2.2.1.cell 2; have h3 : wz.cell? ⟨qi, 3, none⟩ = some (.int .i64 ve) := hSw.2.2.2.1.cell 3; have h4 : wz.cell? ⟨qi, 4, none⟩ = some (.int .i64 vu) := hSw.2.2.2.1.cell 4; have h5 : wz.cell? ⟨qi, 5, none⟩ = some (.bool vh) := hSw.2.2.2.1.cell 5; go_simp; try (with_reducible rfl)
              try simp only [Act.put, List.setIfInBounds_toArray, List.set_cons_zero, List.set_cons_succ, List.getElem_toArray, List.getElem_cons_succ, List.getElem_cons_zero]
              refine take_at (some 243) (i := 11) rfl rfl (by kernel_rfl) (by kernel_rfl) (by kernel_rfl) (fun _ _ _ h => h) (yieldsIf_nls (by kernel_rfl) (.tmp 241) (.tmp 242) _ rfl ⟨vn, vt, vc, ve, vu, vh⟩ rfl rfl) hHeld ?_
              try simp only [Act.put, List.setIfInBounds_toArray, List.set_cons_zero, List.set_cons_succ, List.getElem_toArray, List.getElem_cons_succ, List.getElem_cons_zero]
              refine take_at (some 244) (i := 12) (v := ?_) rfl rfl (by kernel_rfl) (by kernel_rfl) (by kernel_rfl) (fun _ _ _ h => h) (Or.inl ⟨by kernel_rfl, ?_⟩) hHeld ?_
              rotate_left
              · intro wz hSw; go_simp; try (with_reducible rfl)
              try simp only [Act.put, List.setIfInBounds_toArray, List.set_cons_zero, List.set_cons_succ, List.getElem_toArray, List.getElem_cons_succ, List.getElem_cons_zero]
              refine take_at (some 245) (i := 13) (v := ?_) rfl rfl (by kernel_rfl) (by kernel_rfl) (by kernel_rfl) (fun _ _ _ h => h) (Or.inl ⟨by kernel_rfl, ?_⟩) hHeld ?_
              rotate_left
              · intro wz hSw; go_simp; try (with_reducible rfl)
              try simp only [Act.put, List.setIfInBounds_toArray, List.set_cons_zero, List.set_cons_succ, List.getElem_toArray, List.getElem_cons_succ, List.getElem_cons_zero]
              refine take_at (some 246) (i := 14) (v := ?_) rfl rfl (by kernel_rfl) (by kernel_rfl) (by kernel_rfl) (fun _ _ _ h => h) (Or.inl ⟨by kernel_rfl, ?_⟩) hHeld ?_
              rotate_left
              · intro wz hSw; go_simp; try (with_reducible rfl)
              try simp only [Act.put, List.setIfInBounds_toArray, List.set_cons_zero, List.set_cons_succ, List.getElem_toArray, List.getElem_cons_succ, List.getElem_cons_zero]
              refine take_at (some 247) (i := 15) (v := ?_) rfl rfl (by kernel_rfl) (by kernel_rfl) (by kernel_rfl) (fun _ _ _ h => h) (Or.inl ⟨by kernel_rfl, ?_⟩) hHeld ?_
              rotate_left
              · intro wz hSw; go_simp; try (with_reducible rfl)
              try simp only [Act.put, List.setIfInBounds_toArray, List.set_cons_zero, List.set_cons_succ, List.getElem_toArray, List.getElem_cons_succ, List.getElem_cons_zero]
              refine take_at (some 248) (i := 16) (v := ?_) rfl rfl (by kernel_rfl) (by kernel_rfl) (by kernel_rfl) (fun _ _ _ h => h) (Or.inl ⟨by kernel_rfl, ?_⟩) hHeld ?_
              rotate_left
              · intro wz hSw; go_simp; try (with_reducible rfl)
              try simp only [Act.put, List.setIfInBounds_toArray, List.set_cons_zero, List.set_cons_succ, List.getElem_toArray, List.getElem_cons_succ, List.getElem_cons_zero]
              refine take_at (some 249) (i := 17) (v := ?_) rfl rfl (by kernel_rfl) (by kernel_rfl) (by kernel_rfl) (fun _ _ _ h => h) (Or.inl ⟨by kernel_rfl, ?_⟩) hHeld ?_
              rotate_left
              · intro wz hSw; go_simp; try (with_reducible rfl)
              try simp only [Act.put, List.setIfInBounds_toArray, List.set_cons_zero, List.set_cons_succ, List.getElem_toArray, List.getElem_cons_succ, List.getElem_cons_zero]
              refine take_at (some 250) (i := 18) (v := ?_) rfl rfl (by kernel_rfl) (by kernel_rfl) (by kernel_rfl) (fun _ _ _ h => h) (Or.inl ⟨by kernel_rfl, ?_⟩) hHeld ?_
              rotate_left
              · intro wz hSw; go_simp; try (with_reducible rfl)
              try simp only [Act.put, List.setIfInBounds_toArray, List.set_cons_zero, List.set_cons_succ, List.getElem_toArray, List.getElem_cons_succ, List.getElem_cons_zero]
              refine take_at (some 251) (i := 19) (v := ?_) rfl rfl (by kernel_rfl) (by kernel_rfl) (by kernel_rfl) (fun _ _ _ h => h) (Or.inl ⟨by kernel_rfl, ?_⟩) hHeld ?_
              rotate_left
              · intro wz hSw; go_simp; try (with_reducible rfl)
              try simp only [Act.put, List.setIfInBounds_toArray, List.set_cons_zero, List.set_cons_succ, List.getElem_toArray, List.getElem_cons_succ, List.getElem_cons_zero]
              refine take_at (some 253) (i := 21) (v := ?_) rfl rfl (by kernel_rfl) (by kernel_rfl) (by kernel_rfl) (fun _ _ _ h => h) (Or.inl ⟨by kernel_rfl, ?_⟩) hHeld ?_
              rotate_left
              · intro wz hSw; go_simp; try (with_reducible rfl)
              try simp only [Act.put, List.setIfInBounds_toArray, List.set_cons_zero, List.set_cons_succ, List.getElem_toArray, List.getElem_cons_succ, List.getElem_cons_zero]
              refine take_at (some 254) (i := 22) (v := ?_) rfl rfl (by kernel_rfl) (by kernel_rfl) (by kernel_rfl) (fun _ _ _ h => h) (Or.inl ⟨by kernel_rfl, ?_⟩) hHeld ?_
              rotate_left
              · intro wz hSw; have e0 : wz.cell? ⟨bb, 0, none⟩ = some (.slice Ar k cr) := hSw.2.2.2.2.cell 0; go_simp; try (with_reducible rfl)
              try simp only [Act.put, List.setIfInBounds_toArray, List.set_cons_zero, List.set_cons_succ, List.getElem_toArray, List.getElem_cons_succ, List.getElem_cons_zero]
              refine take_at (some 255) (i := 23) (v := ?_) rfl rfl (by kernel_rfl) (by kernel_rfl) (by kernel_rfl) (fun _ _ _ h => h) (Or.inl ⟨by kernel_rfl, ?_⟩) hHeld ?_
              rotate_left
              · intro wz hSw; have e0 : wz.cell? ⟨bb, 0, none⟩ = some (.slice Ar k cr) := hSw.2.2.2.2.cell 0; go_simp; try (with_reducible rfl)
              try simp only [Act.put, List.setIfInBounds_toArray, List.set_cons_zero, List.set_cons_succ, List.getElem_toArray, List.getElem_cons_succ, List.getElem_cons_zero]
              refine take_at (some 256) (i := 24) (v := ?_) rfl rfl (by kernel_rfl) (by kernel_rfl) (by kernel_rfl) (fun _ _ _ h => h) (Or.inl ⟨by kernel_rfl, ?_⟩) hHeld ?_
              rotate_left
              · intro wz hSw; have e0 : wz.cell? ⟨bb, 0, none⟩ = some (.slice Ar k cr) := hSw.2.2.2.2.cell 0; go_simp; try (with_reducible rfl)
              try simp only [Act.put, List.setIfInBounds_toArray, List.set_cons_zero, List.set_cons_succ, List.getElem_toArray, List.getElem_cons_succ, List.getElem_cons_zero]
              refine wpAnyH_ready (rs := [20]) (by kernel_rfl) (by simp) (AllReadyH.cons rfl (fun K hK => ?_) AllReadyH.nil)
              rw [if_pos (by kernel_rfl)]
              go_simp
              refine (p_all (HPD.out.on (Below.refl _ _).drew) k HK.out).mono ?_
              rintro e y1 ⟨Aa, ca, rfl, ha, hb1⟩
              try dsimp only
              refine hK.out _ _ (HSS.out y1 ((Below.refl uD.heap.size uD).drew.trans hb1)) (fun hHeld => ?_)
              try simp only [Act.put, List.setIfInBounds_toArray, List.set_cons_zero, List.set_cons_succ, List.getElem_toArray, List.getElem_cons_succ, List.getElem_cons_zero]
              refine wpAnyH_ready (rs := [25]) (by kernel_rfl) (by simp) (AllReadyH.cons rfl (fun K hK => ?_) AllReadyH.nil)
              rw [if_pos (by kernel_rfl)]
              go_simp
              refine (rsame_yes Aa Ar ca cr b2.l y1 k HK.out ha (HRR.out.on ((Below.refl uD.heap.size uD).drew.trans hb1)) (by omega)).mono ?_
              rintro e y2 ⟨rfl, hb2⟩
              try dsimp only
              refine hK.out _ _ (HSS.out y2 (((Below.refl uD.heap.size uD).drew.trans hb1).trans (hb2.mono hb1.size))) (fun hHeld => ?_)
              try simp only [Act.put, List.setIfInBounds_toArray, List.set_cons_zero, List.set_cons_succ, List.getElem_toArray, List.getElem_cons_succ, List.getElem_cons_zero]
              refine take_at (some 258) (i := 26) (v := ?_) rfl rfl (by kernel_rfl) (by kernel_rfl) (by kernel_rfl) (fun _ _ _ h => h) (Or.inl ⟨by kernel_rfl, ?_⟩) hHeld ?_
              rotate_left
              · intro wz hSw; go_simp; try (with_reducible rfl)
              try simp only [Act.put, List.setIfInBounds_toArray, List.set_cons_zero, List.set_cons_succ, List.getElem_toArray, List.getElem_cons_succ, List.getElem_cons_zero]
              refine take_at (some 259) (i := 27) (v := ?_) rfl rfl (by kernel_rfl) (by kernel_rfl) (by kernel_rfl) (fun _ _ _ h => h) (Or.inl ⟨by kernel_rfl, ?_⟩) hHeld ?_
              rotate_left
              · intro wz hSw; go_simp; try (with_reducible rfl)
              try simp only [Act.put, List.setIfInBounds_toArray, List.set_cons_zero, List.set_cons_succ, List.getElem_toArray, List.getElem_cons_succ, List.getElem_cons_zero]
              refine wpAnyH_done (by kernel_rfl) ?_ _
              refine gen_q13 (fun y => Pz W y T4 gb bb g most b2 b2) (HPD.out.on (((Below.refl uD.heap.size uD).drew.trans hb1).trans (hb2.mono hb1.size))) (fun y hy => ?_)
              have HPY := Lib.hid hy
              clear hy hHeld
              go_wp2
              go_roundw
              case rel => exact ⟨i + 1, T4, b2, by omega, by go_num, HPY, HNN⟩
              case measure => simp [intOf]; omega
          have n4 : (ow == 4) = false := by simp [h4]
          by_cases h5 : ow = 5
          · subst h5
            as_aux_lemma =>
              obtain ⟨⟨ox, b2⟩, hR⟩ : ∃ R, leaveL g b oc oo = R := ⟨_, rfl⟩
              have HR0 := Lib.hid (show (leaveL g b oc oo).2 = b2 by rw [hR])
              have HR1 := Lib.hid (show (leaveL g b oc oo).1 = ox by rw [hR])
              clear hR h2 n2 h3 n3 h4 n4
              obtain ⟨n', hn'⟩ : ∃ n', ox.length = n' := ⟨_, rfl⟩
              have HN' := Lib.hid hn'
              have HN'' := Lib.hid (show n' ≤ 64 by rw [← hn', ← HR1.out]; exact Nat.le_trans (leave_few g b oc oo) HP.out.ok.few)
              clear hn'
              have HNN := Lib.hid (show b2.nx ≤ ((i + 1 : Nat) : Int) + 1 by have h1 := nx_step HP.out.ok (o := ⟨5, ot, on, oc, oe, oo, ol⟩) (show doL g most b ⟨5, ot, on, oc, oe, oo, ol⟩ = (zeroLs, 0, b2) by unfold doL; dsimp only; rw [if_neg (by decide), if_neg (by decide), if_neg (by decide), if_pos rfl, HR0.out]); have h2 := HNI.out; omega)
              have d0 : u1.cell? ⟨p, 0, none⟩ = some (.int .i64 5) := HO1.out.b.cell 0
              have d1 : u1.cell? ⟨p, 1, none⟩ = some (.string ot) := HO1.out.b.cell 1
              have d2 : u1.cell? ⟨p, 2, none⟩ = some (.string on) := HO1.out.b.cell 2
              have d3 : u1.cell? ⟨p, 3, none⟩ = some (.int .i64 oc) := HO1.out.b.cell 3
              have d4 : u1.cell? ⟨p, 4, none⟩ = some (.int .i64 oe) := HO1.out.b.cell 4
              have d5 : u1.cell? ⟨p, 5, none⟩ = some (.int .i64 oo) := HO1.out.b.cell 5
              have d6 : u1.cell? ⟨p, 6, none⟩ = some (.int .i64 ol) := HO1.out.b.cell 6
              go_upto_region 37 with fail
              clear d0 d1 d2 d3 d4 d5 d6
              try simp only [List.cons_append, List.nil_append]
              refine wp_region_held_drew (S := fun wz => Bk wz p 30 #[.int .i64 5, .string ot, .string on, .int .i64 oc, .int .i64 oe, .int .i64 oo, .int .i64 ol]) (by kernel_rfl) (HO1.out.b.drew) (fun hHeld => ?_)
              refine take_at (some 188) (i := 0) (v := ?_) rfl rfl (by kernel_rfl) (by kernel_rfl) (by kernel_rfl) (fun _ _ _ h => h) (Or.inl ⟨by kernel_rfl, ?_⟩) hHeld ?_
              rotate_left
              · intro wz hSw; go_simp; try (with_reducible rfl)
              try simp only [Act.put, List.setIfInBounds_toArray, List.set_cons_zero, List.set_cons_succ, List.getElem_toArray, List.getElem_cons_succ, List.getElem_cons_zero]
              refine take_at (some 189) (i := 1) (v := ?_) rfl rfl (by kernel_rfl) (by kernel_rfl) (by kernel_rfl) (fun _ _ _ h => h) (Or.inl ⟨by kernel_rfl, ?_⟩) hHeld ?_
              rotate_left
              · intro wz hSw; have d0 : wz.cell? ⟨p, 0, none⟩ = some (.int .i64 5) := hSw.cell 0; have d1 : wz.cell? ⟨p, 1, none⟩ = some (.string ot) := hSw.cell 1; have d2 : wz.cell? ⟨p, 2, none⟩ = some (.string on) := hSw.cell 2; have d3 : wz.cell? ⟨p, 3, none⟩ = some (.int .i64 oc) := hSw.cell 3; have d4 : wz.cell? ⟨p, 4, none⟩ = some (.int .i64 oe) := hSw.cell 4; have d5 : wz.cell? ⟨p, 5, none⟩ = some (.int .i64 oo) := hSw.cell 5; have d6 : wz.cell? ⟨p, 6, none⟩ = some (.int .i64 ol) := hSw.cell 6; go_simp; try (with_reducible rfl)
              try simp only [Act.put, List.setIfInBounds_toArray, List.set_cons_zero, List.set_cons_succ, List.getElem_toArray, List.getElem_cons_succ, List.getElem_cons_zero]
              refine take_at (some 190) (i := 2) (v := ?_) rfl rfl (by kernel_rfl) (by kernel_rfl) (by kernel_rfl) (fun _ _ _ h => h) (Or.inl ⟨by kernel_rfl, ?_⟩) hHeld ?_
              rotate_left
              · intro wz hSw; have d0 : wz.cell? ⟨p, 0, none⟩ = some (.int .i64 5) := hSw.cell 0; have d1 : wz.cell? ⟨p, 1, none⟩ = some (.string ot) := hSw.cell 1; have d2 : wz.cell? ⟨p, 2, none⟩ = some (.string on) := hSw.cell 2; have d3 : wz.cell? ⟨p, 3, none⟩ = some (.int .i64 oc) := hSw.cell 3; have d4 : wz.cell? ⟨p, 4, none⟩ = some (.int .i64 oe) := hSw.cell 4; have d5 : wz.cell? ⟨p, 5, none⟩ = some (.int .i64 oo) := hSw.cell 5; have d6 : wz.cell? ⟨p, 6, none⟩ = some (.int .i64 ol) := hSw.cell 6; go_simp; try (with_reducible rfl)
              try simp only [Act.put, List.setIfInBounds_toArray, List.set_cons_zero, List.set_cons_succ, List.getElem_toArray, List.getElem_cons_succ, List.getElem_cons_zero]
              refine take_at (some 191) (i := 3) (v := ?_) rfl rfl (by kernel_rfl) (by kernel_rfl) (by kernel_rfl) (fun _ _ _ h => h) (Or.inl ⟨by kernel_rfl, ?_⟩) hHeld ?_
              rotate_left
              · intro wz hSw; have d0 : wz.cell? ⟨p, 0, none⟩ = some (.int .i64 5) := hSw.cell 0; have d1 : wz.cell? ⟨p, 1, none⟩ = some (.string ot) := hSw.cell 1; have d2 : wz.cell? ⟨p, 2, none⟩ = some (.string on) := hSw.cell 2; have d3 : wz.cell? ⟨p, 3, none⟩ = some (.int .i64 oc) := hSw.cell 3; have d4 : wz.cell? ⟨p, 4, none⟩ = some (.int .i64 oe) := hSw.cell 4; have d5 : wz.cell? ⟨p, 5, none⟩ = some (.int .i64 oo) := hSw.cell 5; have d6 : wz.cell? ⟨p, 6, none⟩ = some (.int .i64 ol) := hSw.cell 6; go_simp; try (with_reducible rfl)
              try simp only [Act.put, List.setIfInBounds_toArray, List.set_cons_zero, List.set_cons_succ, List.getElem_toArray, List.getElem_cons_succ, List.getElem_cons_zero]
              refine take_at (some 192) (i := 4) (v := ?_) rfl rfl (by kernel_rfl) (by kernel_rfl) (by kernel_rfl) (fun _ _ _ h => h) (Or.inl ⟨by kernel_rfl, ?_⟩) hHeld ?_
              rotate_left
              · intro wz hSw; have d0 : wz.cell? ⟨p, 0, none⟩ = some (.int .i64 5) := hSw.cell 0; have d1 : wz.cell? ⟨p, 1, none⟩ = some (.string ot) := hSw.cell 1; have d2 : wz.cell? ⟨p, 2, none⟩ = some (.string on) := hSw.cell 2; have d3 : wz.cell? ⟨p, 3, none⟩ = some (.int .i64 oc) := hSw.cell 3; have d4 : wz.cell? ⟨p, 4, none⟩ = some (.int .i64 oe) := hSw.cell 4; have d5 : wz.cell? ⟨p, 5, none⟩ = some (.int .i64 oo) := hSw.cell 5; have d6 : wz.cell? ⟨p, 6, none⟩ = some (.int .i64 ol) := hSw.cell 6; go_simp; try (with_reducible rfl)
              try simp only [Act.put, List.setIfInBounds_toArray, List.set_cons_zero, List.set_cons_succ, List.getElem_toArray, List.getElem_cons_succ, List.getElem_cons_zero]
              refine take_at (some 194) (i := 6) (v := ?_) rfl rfl (by kernel_rfl) (by kernel_rfl) (by kernel_rfl) (fun _ _ _ h => h) (Or.inl ⟨by kernel_rfl, ?_⟩) hHeld ?_
              rotate_left
              · intro wz hSw; go_simp; try (with_reducible rfl)
              try simp only [Act.put, List.setIfInBounds_toArray, List.set_cons_zero, List.set_cons_succ, List.getElem_toArray, List.getElem_cons_succ, List.getElem_cons_zero]
              refine take_at (some 195) (i := 7) (v := ?_) rfl rfl (by kernel_rfl) (by kernel_rfl) (by kernel_rfl) (fun _ _ _ h => h) (Or.inl ⟨by kernel_rfl, ?_⟩) hHeld ?_
              rotate_left
              · intro wz hSw; have d0 : wz.cell? ⟨p, 0, none⟩ = some (.int .i64 5) := hSw.cell 0; have d1 : wz.cell? ⟨p, 1, none⟩ = some (.string ot) := hSw.cell 1; have d2 : wz.cell? ⟨p, 2, none⟩ = some (.string on) := hSw.cell 2; have d3 : wz.cell? ⟨p, 3, none⟩ = some (.int .i64 oc) := hSw.cell 3; have d4 : wz.cell? ⟨p, 4, none⟩ = some (.int .i64 oe) := hSw.cell 4; have d5 : wz.cell? ⟨p, 5, none⟩ = some (.int .i64 oo) := hSw.cell 5; have d6 : wz.cell? ⟨p, 6, none⟩ = some (.int .i64 ol) := hSw.cell 6; go_simp; try (with_reducible rfl)
              try simp only [Act.put, List.setIfInBounds_toArray, List.set_cons_zero, List.set_cons_succ, List.getElem_toArray, List.getElem_cons_succ, List.getElem_cons_zero]
              refine take_at (some 196) (i := 8) (v := ?_) rfl rfl (by kernel_rfl) (by kernel_rfl) (by kernel_rfl) (fun _ _ _ h => h) (Or.inl ⟨by kernel_rfl, ?_⟩) hHeld ?_
              rotate_left
              · intro wz hSw; have d0 : wz.cell? ⟨p, 0, none⟩ = some (.int .i64 5) := hSw.cell 0; have d1 : wz.cell? ⟨p, 1, none⟩ = some (.string ot) := hSw.cell 1; have d2 : wz.cell? ⟨p, 2, none⟩ = some (.string on) := hSw.cell 2; have d3 : wz.cell? ⟨p, 3, none⟩ = some (.int .i64 oc) := hSw.cell 3; have d4 : wz.cell? ⟨p, 4, none⟩ = some (.int .i64 oe) := hSw.cell 4; have d5 : wz.cell? ⟨p, 5, none⟩ = some (.int .i64 oo) := hSw.cell 5; have d6 : wz.cell? ⟨p, 6, none⟩ = some (.int .i64 ol) := hSw.cell 6; go_simp; try (with_reducible rfl)
              try simp only [Act.put, List.setIfInBounds_toArray, List.set_cons_zero, List.set_cons_succ, List.getElem_toArray, List.getElem_cons_succ, List.getElem_cons_zero]
              refine take_at (some 197) (i := 9) (v := ?_) rfl rfl (by kernel_rfl) (by kernel_rfl) (by kernel_rfl) (fun _ _ _ h => h) (Or.inl ⟨by kernel_rfl, ?_⟩) hHeld ?_
              rotate_left
              · intro wz hSw; have d0 : wz.cell? ⟨p, 0, none⟩ = some (.int .i64 5) := hSw.cell 0; have d1 : wz.cell? ⟨p, 1, none⟩ = some (.string ot) := hSw.cell 1; have d2 : wz.cell? ⟨p, 2, none⟩ = some (.string on) := hSw.cell 2; have d3 : wz.cell? ⟨p, 3, none⟩ = some (.int .i64 oc) := hSw.cell 3; have d4 : wz.cell? ⟨p, 4, none⟩ = some (.int .i64 oe) := hSw.cell 4; have d5 : wz.cell? ⟨p, 5, none⟩ = some (.int .i64 oo) := hSw.cell 5; have d6 : wz.cell? ⟨p, 6, none⟩ = some (.int .i64 ol) := hSw.cell 6; go_simp; try (with_reducible rfl)
              try simp only [Act.put, List.setIfInBounds_toArray, List.set_cons_zero, List.set_cons_succ, List.getElem_toArray, List.getElem_cons_succ, List.getElem_cons_zero]
              refine take_at (some 198) (i := 10) (v := ?_) rfl rfl (by kernel_rfl) (by kernel_rfl) (by kernel_rfl) (fun _ _ _ h => h) (Or.inl ⟨by kernel_rfl, ?_⟩) hHeld ?_
              rotate_left
              · intro wz hSw; have d0 : wz.cell? ⟨p, 0, none⟩ = some (.int .i64 5) := hSw.cell 0; have d1 : wz.cell? ⟨p, 1, none⟩ = some (.string ot) := hSw.cell 1; have d2 : wz.cell? ⟨p, 2, none⟩ = some (.string on) := hSw.cell 2; have d3 : wz.cell? ⟨p, 3, none⟩ = some (.int .i64 oc) := hSw.cell 3; have d4 : wz.cell? ⟨p, 4, none⟩ = some (.int .i64 oe) := hSw.cell 4; have d5 : wz.cell? ⟨p, 5, none⟩ = some (.int .i64 oo) := hSw.cell 5; have d6 : wz.cell? ⟨p, 6, none⟩ = some (.int .i64 ol) := hSw.cell 6; go_simp; try (with_reducible rfl)
              try simp only [Act.put, List.setIfInBounds_toArray, List.set_cons_zero, List.set_cons_succ, List.getElem_toArray, List.getElem_cons_succ, List.getElem_cons_zero]
              refine wpAnyH_ready (rs := [5]) (by kernel_rfl) (by simp) (AllReadyH.cons rfl (fun K hK => ?_) AllReadyH.nil)
              rw [if_pos (by kernel_rfl)]
              go_simp
              refine (p_leave (HP1.out.on (Below.refl u1.heap.size u1).drew) oc oo ox n' b2 HR1.out HR0.out HN'.out).mono ?_
              rintro e y1 ⟨A1, c1, T1, rfl, k1, k2, k3⟩
              try dsimp only
              refine hK.out _ _ (((HO1.out.on (Below.refl u1.heap.size u1).drew).step k3).b) (fun hHeld => ?_)
              try simp only [Act.put, List.setIfInBounds_toArray, List.set_cons_zero, List.set_cons_succ, List.getElem_toArray, List.getElem_cons_succ, List.getElem_cons_zero]
              refine wpAnyH_ready (rs := [11]) (by kernel_rfl) (by simp) (AllReadyH.cons rfl (fun K hK => ?_) AllReadyH.nil)
              rw [if_pos (by kernel_rfl)]
              go_simp
              refine (r_leave k2 HGK.out oc oo ox n' b2 HR1.out HR0.out HN'.out).mono ?_
              rintro e y2 ⟨A2, c2, T2, rfl, j1, j2, j3⟩
              try dsimp only
              refine hK.out _ _ ((((HO1.out.on (Below.refl u1.heap.size u1).drew).step k3).step j3).b) (fun hHeld => ?_)
              try simp only [Act.put, List.setIfInBounds_toArray, List.set_cons_zero, List.set_cons_succ, List.getElem_toArray, List.getElem_cons_succ, List.getElem_cons_zero]
              refine wpAnyH_ready (rs := [12]) (by kernel_rfl) (by simp) (AllReadyH.cons rfl (fun K hK => ?_) AllReadyH.nil)
              rw [if_pos (by kernel_rfl)]
              go_simp
              refine (rsame_yes A1 A2 c1 c2 ox y2 n' HN'.out (k1.step j3).rw_ j1 (by have := HN''.out; omega)).mono ?_
              rintro e y3 ⟨rfl, m1⟩
              try dsimp only
              refine hK.out _ _ (((((HO1.out.on (Below.refl u1.heap.size u1).drew).step k3).step j3).on m1).b) (fun hHeld => ?_)
              try simp only [Act.put, List.setIfInBounds_toArray, List.set_cons_zero, List.set_cons_succ, List.getElem_toArray, List.getElem_cons_succ, List.getElem_cons_zero]
              refine take_at (some 201) (i := 13) (v := ?_) rfl rfl (by kernel_rfl) (by kernel_rfl) (by kernel_rfl) (fun _ _ _ h => h) (Or.inl ⟨by kernel_rfl, ?_⟩) hHeld ?_
              rotate_left
              · intro wz hSw; go_simp; try (with_reducible rfl)
              try simp only [Act.put, List.setIfInBounds_toArray, List.set_cons_zero, List.set_cons_succ, List.getElem_toArray, List.getElem_cons_succ, List.getElem_cons_zero]
              refine wpAnyH_done (by kernel_rfl) ?_ _
              refine gen_q13 (fun y => Pz W y T2 gb bb g most b2 b2 ∧ Bz y T2 p 30 #[.int .i64 5, .string ot, .string on, .int .i64 oc, .int .i64 oe, .int .i64 oo, .int .i64 ol] ∧ Bz y T2 px 32 #[.string ⟨#[]⟩, .string ⟨#[]⟩, .int .i64 0, .int .i64 0, .int .i64 0, .bool false] ∧ Bz y T2 py 32 #[.string ⟨#[]⟩, .string ⟨#[]⟩, .int .i64 0, .int .i64 0, .int .i64 0, .bool false]) ⟨j2.on m1, (((HO1.out.on (Below.refl u1.heap.size u1).drew).step k3).step j3).on m1, (((HX1.out.on (Below.refl u1.heap.size u1).drew).step k3).step j3).on m1, (((HY1.out.on (Below.refl u1.heap.size u1).drew).step k3).step j3).on m1⟩ (fun u7 hy => ?_)
              have HPT := Lib.hid hy.1
              have HOT := Lib.hid hy.2.1
              have HXT := Lib.hid hy.2.2.1
              have HYT := Lib.hid hy.2.2.2
              clear hy hHeld k1 k2 k3 j1 j2 j3 m1
              go_upto_region 42 with fail
              have d0 : u7.cell? ⟨p, 0, none⟩ = some (.int .i64 5) := HOT.out.b.cell 0
              have d1 : u7.cell? ⟨p, 1, none⟩ = some (.string ot) := HOT.out.b.cell 1
              have d2 : u7.cell? ⟨p, 2, none⟩ = some (.string on) := HOT.out.b.cell 2
              have d3 : u7.cell? ⟨p, 3, none⟩ = some (.int .i64 oc) := HOT.out.b.cell 3
              have d4 : u7.cell? ⟨p, 4, none⟩ = some (.int .i64 oe) := HOT.out.b.cell 4
              have d5 : u7.cell? ⟨p, 5, none⟩ = some (.int .i64 oo) := HOT.out.b.cell 5
              have d6 : u7.cell? ⟨p, 6, none⟩ = some (.int .i64 ol) := HOT.out.b.cell 6
              obtain ⟨⟨vn, vt, vc, ve, vu, vh⟩, hhv⟩ : ∃ v, (holdL b2 on oo).getD zeroLs = v := ⟨_, rfl⟩
              obtain ⟨hs, hhs⟩ : ∃ v, (holdL b2 on oo).isSome = v := ⟨_, rfl⟩
              have HH1 := Lib.hid hhv
              have HH2 := Lib.hid hhs
              clear hhv hhs
              go_upto_region 43 with (go_at_call 27; (with_reducible refine (p_holder HPT.out on oo HSQ.out.2 _ _ HH1.out HH2.out).mono ?_); rintro e uA ⟨rfl, hb⟩; have HPA := Lib.hid (HPT.out.on hb); have HXA := Lib.hid (HXT.out.on hb); have HYA := Lib.hid (HYT.out.on hb); have HOA := Lib.hid (HOT.out.on hb); clear hb)
              obtain ⟨qh, hq⟩ : ∃ q, uA.heap.size = q := ⟨_, rfl⟩
              obtain ⟨uB, hv⟩ : ∃ v, uA.alloc (.cells #[.string vn, .string vt, .int .i64 vc, .int .i64 ve, .int .i64 vu, .bool vh] 32) = v := ⟨_, rfl⟩
              have HPB := Lib.hid (show Pz W uB T2 gb bb g most b2 b2 by rw [← hv]; exact HPA.out.on ((Below.refl _ _).alloc (Nat.le_refl _) _))
              have HQqh := Lib.hid (show Bz uB T2 qh 32 #[.string vn, .string vt, .int .i64 vc, .int .i64 ve, .int .i64 vu, .bool vh] by rw [← hv, ← hq]; exact Bz.new HPA.out.hi _ _)
              have HZqh := Lib.hid (show uA.heap.size = qh ∧ uA.heap.size ≤ uB.heap.size from ⟨hq, by rw [← hv, World.size_alloc]; omega⟩)
              have HOB := Lib.hid (show Bz uB T2 p 30 #[.int .i64 5, .string ot, .string on, .int .i64 oc, .int .i64 oe, .int .i64 oo, .int .i64 ol] by rw [← hv]; exact HOA.out.alloc _)
              have HXB := Lib.hid (show Bz uB T2 px 32 #[.string ⟨#[]⟩, .string ⟨#[]⟩, .int .i64 0, .int .i64 0, .int .i64 0, .bool false] by rw [← hv]; exact HXA.out.alloc _)
              have HYB := Lib.hid (show Bz uB T2 py 32 #[.string ⟨#[]⟩, .string ⟨#[]⟩, .int .i64 0, .int .i64 0, .int .i64 0, .bool false] by rw [← hv]; exact HYA.out.alloc _)
              try dsimp only
              rw [hv]
              try rw [hq]
              clear hv hq
              clear d0 d1 d2 d3 d4 d5 d6
              have d0 : uB.cell? ⟨p, 0, none⟩ = some (.int .i64 5) := HOB.out.b.cell 0
              have d1 : uB.cell? ⟨p, 1, none⟩ = some (.string ot) := HOB.out.b.cell 1
              have d2 : uB.cell? ⟨p, 2, none⟩ = some (.string on) := HOB.out.b.cell 2
              have d3 : uB.cell? ⟨p, 3, none⟩ = some (.int .i64 oc) := HOB.out.b.cell 3
              have d4 : uB.cell? ⟨p, 4, none⟩ = some (.int .i64 oe) := HOB.out.b.cell 4
              have d5 : uB.cell? ⟨p, 5, none⟩ = some (.int .i64 oo) := HOB.out.b.cell 5
              have d6 : uB.cell? ⟨p, 6, none⟩ = some (.int .i64 ol) := HOB.out.b.cell 6
              go_upto_region 44 with (go_at_call 28; (with_reducible refine (r_holder HPB.out HPB.out.ok on oo _ _ HH1.out HH2.out).mono ?_); rintro e uC ⟨rfl, hb⟩; have HPC := Lib.hid (HPB.out.on hb); have HXC := Lib.hid (HXB.out.on hb); have HYC := Lib.hid (HYB.out.on hb); have HHC := Lib.hid (HQqh.out.on hb); clear hb)
              obtain ⟨qi, hq⟩ : ∃ q, uC.heap.size = q := ⟨_, rfl⟩
              obtain ⟨uD, hv⟩ : ∃ v, uC.alloc (.cells #[.string vn, .string vt, .int .i64 vc, .int .i64 ve, .int .i64 vu, .bool vh] 32) = v := ⟨_, rfl⟩
              have HPD := Lib.hid (show Pz W uD T2 gb bb g most b2 b2 by rw [← hv]; exact HPC.out.on ((Below.refl _ _).alloc (Nat.le_refl _) _))
              have HQqi := Lib.hid (show Bz uD T2 qi 32 #[.string vn, .string vt, .int .i64 vc, .int .i64 ve, .int .i64 vu, .bool vh] by rw [← hv, ← hq]; exact Bz.new HPC.out.hi _ _)
              have HZqi := Lib.hid (show uC.heap.size = qi ∧ uC.heap.size ≤ uD.heap.size from ⟨hq, by rw [← hv, World.size_alloc]; omega⟩)
              have HXD := Lib.hid (show Bz uD T2 px 32 #[.string ⟨#[]⟩, .string ⟨#[]⟩, .int .i64 0, .int .i64 0, .int .i64 0, .bool false] by rw [← hv]; exact HXC.out.alloc _)
              have HYD := Lib.hid (show Bz uD T2 py 32 #[.string ⟨#[]⟩, .string ⟨#[]⟩, .int .i64 0, .int .i64 0, .int .i64 0, .bool false] by rw [← hv]; exact HYC.out.alloc _)
              have HHD2 := Lib.hid (show Bz uD T2 qh 32 #[.string vn, .string vt, .int .i64 vc, .int .i64 ve, .int .i64 vu, .bool vh] by rw [← hv]; exact HHC.out.alloc _)
              try dsimp only
              rw [hv]
              try rw [hq]
              clear hv hq
              clear d0 d1 d2 d3 d4 d5 d6
              obtain ⟨Ar, cr, hr1, hr2⟩ := HPD.out.row
              obtain ⟨k, hk⟩ : ∃ k, b2.l.length = k := ⟨_, rfl⟩
              have HK := Lib.hid hk
              have hk64 : k ≤ 64 := by rw [← hk]; exact HPD.out.ok.few
              rw [hk] at hr1
              have HRB := Lib.hid hr1
              have HRR := Lib.hid hr2
              have HSS := Lib.hid (show ∀ u, Below uD.heap.size uD u → Bk u px 32 #[.string ⟨#[]⟩, .string ⟨#[]⟩, .int .i64 0, .int .i64 0, .int .i64 0, .bool false] ∧ Bk u py 32 #[.string ⟨#[]⟩, .string ⟨#[]⟩, .int .i64 0, .int .i64 0, .int .i64 0, .bool false] ∧ Bk u qh 32 #[.string vn, .string vt, .int .i64 vc, .int .i64 ve, .int .i64 vu, .bool vh] ∧ Bk u qi 32 #[.string vn, .string vt, .int .i64 vc, .int .i64 ve, .int .i64 vu, .bool vh] ∧ Bk u bb 46 (bkc Ar k cr g most b2.nx) from fun u hb => ⟨HXD.out.b.below hb HXD.out.b.lt, HYD.out.b.below hb HYD.out.b.lt, HHD2.out.b.below hb HHD2.out.b.lt, HQqi.out.b.below hb HQqi.out.b.lt, HRB.out.below hb HRB.out.lt⟩)
              clear hk hr1 hr2
              try simp only [List.cons_append, List.nil_append]
              refine wp_region_held_drew (S := fun wz => Bk wz px 32 #[.string ⟨#[]⟩, .string ⟨#[]⟩, .int .i64 0, .int .i64 0, .int .i64 0, .bool false] ∧ Bk wz py 32 #[.string ⟨#[]⟩, .string ⟨#[]⟩, .int .i64 0, .int .i64 0, .int .i64 0, .bool false] ∧ Bk wz qh 32 #[.string vn, .string vt, .int .i64 vc, .int .i64 ve, .int .i64 vu, .bool vh] ∧ Bk wz qi 32 #[.string vn, .string vt, .int .i64 vc, .int .i64 ve, .int .i64 vu, .bool vh] ∧ Bk wz bb 46 (bkc Ar k cr g most b2.nx)) (by kernel_rfl) (HSS.out _ (Below.refl _ _).drew) (fun hHeld => ?_)
              refine take_at (some 232) (i := 0) (v := ?_) rfl rfl (by kernel_rfl) (by kernel_rfl) (by kernel_rfl) (fun _ _ _ h => h) (Or.inl ⟨by kernel_rfl, ?_⟩) hHeld ?_
              rotate_left
              · intro wz hSw; have x0 : wz.cell? ⟨px, 0, none⟩ = some (.string ⟨#[]⟩) := hSw.1.cell 0; have x1 : wz.cell? ⟨px, 1, none⟩ = some (.string ⟨#[]⟩) := hSw.1.cell 1; have x2 : wz.cell? ⟨px, 2, none⟩ = some (.int .i64 0) := hSw.1.cell 2; have x3 : wz.cell? ⟨px, 3, none⟩ = some (.int .i64 0) := hSw.1.cell 3; have x4 : wz.cell? ⟨px, 4, none⟩ = some (.int .i64 0) := hSw.1.cell 4; have x5 : wz.cell? ⟨px, 5, none⟩ = some (.bool false) := hSw.1.cell 5; go_simp; try (with_reducible rfl)
              try simp only [Act.put, List.setIfInBounds_toArray, List.set_cons_zero, List.set_cons_succ, List.getElem_toArray, List.getElem_cons_succ, List.getElem_cons_zero]
              refine take_at (some 233) (i := 1) (v := ?_) rfl rfl (by kernel_rfl) (by kernel_rfl) (by kernel_rfl) (fun _ _ _ h => h) (Or.inl ⟨by kernel_rfl, ?_⟩) hHeld ?_
              rotate_left
              · intro wz hSw; have y0 : wz.cell? ⟨py, 0, none⟩ = some (.string ⟨#[]⟩) := hSw.2.1.cell 0; have y1 : wz.cell? ⟨py, 1, none⟩ = some (.string ⟨#[]⟩) := hSw.2.1.cell 1; have y2 : wz.cell? ⟨py, 2, none⟩ = some (.int .i64 0) := hSw.2.1.cell 2; have y3 : wz.cell? ⟨py, 3, none⟩ = some (.int .i64 0) := hSw.2.1.cell 3; have y4 : wz.cell? ⟨py, 4, none⟩ = some (.int .i64 0) := hSw.2.1.cell 4; have y5 : wz.cell? ⟨py, 5, none⟩ = some (.bool false) := hSw.2.1.cell 5; go_simp; try (with_reducible rfl)
              try simp only [Act.put, List.setIfInBounds_toArray, List.set_cons_zero, List.set_cons_succ, List.getElem_toArray, List.getElem_cons_succ, List.getElem_cons_zero]
              refine take_at (some 234) (i := 2) rfl rfl (by kernel_rfl) (by kernel_rfl) (by kernel_rfl) (fun _ _ _ h => h) (yieldsIf_nls (by kernel_rfl) (.tmp 232) (.tmp 233) _ rfl ⟨⟨#[]⟩, ⟨#[]⟩, 0, 0, 0, false⟩ rfl rfl) hHeld ?_
              try simp only [Act.put, List.setIfInBounds_toArray, List.set_cons_zero, List.set_cons_succ, List.getElem_toArray, List.getElem_cons_succ, List.getElem_cons_zero]
              refine take_at (some 235) (i := 3) (v := ?_) rfl rfl (by kernel_rfl) (by kernel_rfl) (by kernel_rfl) (fun _ _ _ h => h) (Or.inl ⟨by kernel_rfl, ?_⟩) hHeld ?_
              rotate_left
              · intro wz hSw; go_simp; try (with_reducible rfl)
              try simp only [Act.put, List.setIfInBounds_toArray, List.set_cons_zero, List.set_cons_succ, List.getElem_toArray, List.getElem_cons_succ, List.getElem_cons_zero]
              refine take_at (some 236) (i := 4) (v := ?_) rfl rfl (by kernel_rfl) (by kernel_rfl) (by kernel_rfl) (fun _ _ _ h => h) (Or.inl ⟨by kernel_rfl, ?_⟩) hHeld ?_
              rotate_left
              · intro wz hSw; go_simp; try (with_reducible rfl)
              try simp only [Act.put, List.setIfInBounds_toArray, List.set_cons_zero, List.set_cons_succ, List.getElem_toArray, List.getElem_cons_succ, List.getElem_cons_zero]
              refine take_at (some 237) (i := 5) (v := ?_) rfl rfl (by kernel_rfl) (by kernel_rfl) (by kernel_rfl) (fun _ _ _ h => h) (Or.inl ⟨by kernel_rfl, ?_⟩) hHeld ?_
              rotate_left
              · intro wz hSw; go_simp; try (with_reducible rfl)
              try simp only [Act.put, List.setIfInBounds_toArray, List.set_cons_zero, List.set_cons_succ, List.getElem_toArray, List.getElem_cons_succ, List.getElem_cons_zero]
              refine take_at (some 238) (i := 6) (v := ?_) rfl rfl (by kernel_rfl) (by kernel_rfl) (by kernel_rfl) (fun _ _ _ h => h) (Or.inl ⟨by kernel_rfl, ?_⟩) hHeld ?_
              rotate_left
              · intro wz hSw; go_simp; try (with_reducible rfl)
              try simp only [Act.put, List.setIfInBounds_toArray, List.set_cons_zero, List.set_cons_succ, List.getElem_toArray, List.getElem_cons_succ, List.getElem_cons_zero]
              refine take_at (some 239) (i := 7) (v := ?_) rfl rfl (by kernel_rfl) (by kernel_rfl) (by kernel_rfl) (fun _ _ _ h => h) (Or.inl ⟨by kernel_rfl, ?_⟩) hHeld ?_
              rotate_left
              · intro wz hSw; go_simp; try (with_reducible rfl)
              try simp only [Act.put, List.setIfInBounds_toArray, List.set_cons_zero, List.set_cons_succ, List.getElem_toArray, List.getElem_cons_succ, List.getElem_cons_zero]
              refine take_at (some 240) (i := 8) (v := ?_) rfl rfl (by kernel_rfl) (by kernel_rfl) (by kernel_rfl) (fun _ _ _ h => h) (Or.inl ⟨by kernel_rfl, ?_⟩) hHeld ?_
              rotate_left
              · intro wz hSw; go_simp; try (with_reducible rfl)
              try simp only [Act.put, List.setIfInBounds_toArray, List.set_cons_zero, List.set_cons_succ, List.getElem_toArray, List.getElem_cons_succ, List.getElem_cons_zero]
              refine take_at (some 241) (i := 9) (v := ?_) rfl rfl (by kernel_rfl) (by kernel_rfl) (by kernel_rfl) (fun _ _ _ h => h) (Or.inl ⟨by kernel_rfl, ?_⟩) hHeld ?_
              rotate_left
              · intro wz hSw; have h0 : wz.cell? ⟨qh, 0, none⟩ = some (.string vn) := hSw.2.2.1.cell 0; have h1 : wz.cell? ⟨qh, 1, none⟩ = some (.string vt) := hSw.2.2.1.cell 1; have h2 : wz.cell? ⟨qh, 2, none⟩ = some (.int .i64 vc) := hSw.2.2.1.cell 2; have h3 : wz.cell? ⟨qh, 3, none⟩ = some (.int .i64 ve) := hSw.2.2.1.cell 3; have h4 : wz.cell? ⟨qh, 4, none⟩ = some (.int .i64 vu) := hSw.2.2.1.cell 4; have h5 : wz.cell? ⟨qh, 5, none⟩ = some (.bool vh) := hSw.2.2.1.cell 5; go_simp; try (with_reducible rfl)
              try simp only [Act.put, List.setIfInBounds_toArray, List.set_cons_zero, List.set_cons_succ, List.getElem_toArray, List.getElem_cons_succ, List.getElem_cons_zero]
              refine take_at (some 242) (i := 10) (v := ?_) rfl rfl (by kernel_rfl) (by kernel_rfl) (by kernel_rfl) (fun _ _ _ h => h) (Or.inl ⟨by kernel_rfl, ?_⟩) hHeld ?_
              rotate_left
              · intro wz hSw; have h0 : wz.cell? ⟨qi, 0, none⟩ = some (.string vn) := hSw.2.2.2.1.cell 0; have h1 : wz.cell? ⟨qi, 1, none⟩ = some (.string vt) := hSw.2.2.2.1.cell 1; have h2 : wz.cell? ⟨qi, 2, none⟩ = some (.int .i64 vc) := hSw.2.2.2.1.cell 2; have h3 : wz.cell? ⟨qi, 3, none⟩ = some (.int .i64 ve) := hSw.2.2.2.1.cell 3; have h4 : wz.cell? ⟨qi, 4, none⟩ = some (.int .i64 vu) := hSw.2.2.2.1.cell 4; have h5 : wz.cell? ⟨qi, 5, none⟩ = some (.bool vh) := hSw.2.2.2.1.cell 5; go_simp; try (with_reducible rfl)
              try simp only [Act.put, List.setIfInBounds_toArray, List.set_cons_zero, List.set_cons_succ, List.getElem_toArray, List.getElem_cons_succ, List.getElem_cons_zero]
              refine take_at (some 243) (i := 11) rfl rfl (by kernel_rfl) (by kernel_rfl) (by kernel_rfl) (fun _ _ _ h => h) (yieldsIf_nls (by kernel_rfl) (.tmp 241) (.tmp 242) _ rfl ⟨vn, vt, vc, ve, vu, vh⟩ rfl rfl) hHeld ?_
              try simp only [Act.put, List.setIfInBounds_toArray, List.set_cons_zero, List.set_cons_succ, List.getElem_toArray, List.getElem_cons_succ, List.getElem_cons_zero]
              refine take_at (some 244) (i := 12) (v := ?_) rfl rfl (by kernel_rfl) (by kernel_rfl) (by kernel_rfl) (fun _ _ _ h => h) (Or.inl ⟨by kernel_rfl, ?_⟩) hHeld ?_
              rotate_left
              · intro wz hSw; go_simp; try (with_reducible rfl)
              try simp only [Act.put, List.setIfInBounds_toArray, List.set_cons_zero, List.set_cons_succ, List.getElem_toArray, List.getElem_cons_succ, List.getElem_cons_zero]
              refine take_at (some 245) (i := 13) (v := ?_) rfl rfl (by kernel_rfl) (by kernel_rfl) (by kernel_rfl) (fun _ _ _ h => h) (Or.inl ⟨by kernel_rfl, ?_⟩) hHeld ?_
              rotate_left
              · intro wz hSw; go_simp; try (with_reducible rfl)
              try simp only [Act.put, List.setIfInBounds_toArray, List.set_cons_zero, List.set_cons_succ, List.getElem_toArray, List.getElem_cons_succ, List.getElem_cons_zero]
              refine take_at (some 246) (i := 14) (v := ?_) rfl rfl (by kernel_rfl) (by kernel_rfl) (by kernel_rfl) (fun _ _ _ h => h) (Or.inl ⟨by kernel_rfl, ?_⟩) hHeld ?_
              rotate_left
              · intro wz hSw; go_simp; try (with_reducible rfl)
              try simp only [Act.put, List.setIfInBounds_toArray, List.set_cons_zero, List.set_cons_succ, List.getElem_toArray, List.getElem_cons_succ, List.getElem_cons_zero]
              refine take_at (some 247) (i := 15) (v := ?_) rfl rfl (by kernel_rfl) (by kernel_rfl) (by kernel_rfl) (fun _ _ _ h => h) (Or.inl ⟨by kernel_rfl, ?_⟩) hHeld ?_
              rotate_left
              · intro wz hSw; go_simp; try (with_reducible rfl)
              try simp only [Act.put, List.setIfInBounds_toArray, List.set_cons_zero, List.set_cons_succ, List.getElem_toArray, List.getElem_cons_succ, List.getElem_cons_zero]
              refine take_at (some 248) (i := 16) (v := ?_) rfl rfl (by kernel_rfl) (by kernel_rfl) (by kernel_rfl) (fun _ _ _ h => h) (Or.inl ⟨by kernel_rfl, ?_⟩) hHeld ?_
              rotate_left
              · intro wz hSw; go_simp; try (with_reducible rfl)
              try simp only [Act.put, List.setIfInBounds_toArray, List.set_cons_zero, List.set_cons_succ, List.getElem_toArray, List.getElem_cons_succ, List.getElem_cons_zero]
              refine take_at (some 249) (i := 17) (v := ?_) rfl rfl (by kernel_rfl) (by kernel_rfl) (by kernel_rfl) (fun _ _ _ h => h) (Or.inl ⟨by kernel_rfl, ?_⟩) hHeld ?_
              rotate_left
              · intro wz hSw; go_simp; try (with_reducible rfl)
              try simp only [Act.put, List.setIfInBounds_toArray, List.set_cons_zero, List.set_cons_succ, List.getElem_toArray, List.getElem_cons_succ, List.getElem_cons_zero]
              refine take_at (some 250) (i := 18) (v := ?_) rfl rfl (by kernel_rfl) (by kernel_rfl) (by kernel_rfl) (fun _ _ _ h => h) (Or.inl ⟨by kernel_rfl, ?_⟩) hHeld ?_
              rotate_left
              · intro wz hSw; go_simp; try (with_reducible rfl)
              try simp only [Act.put, List.setIfInBounds_toArray, List.set_cons_zero, List.set_cons_succ, List.getElem_toArray, List.getElem_cons_succ, List.getElem_cons_zero]
              refine take_at (some 251) (i := 19) (v := ?_) rfl rfl (by kernel_rfl) (by kernel_rfl) (by kernel_rfl) (fun _ _ _ h => h) (Or.inl ⟨by kernel_rfl, ?_⟩) hHeld ?_
              rotate_left
              · intro wz hSw; go_simp; try (with_reducible rfl)
              try simp only [Act.put, List.setIfInBounds_toArray, List.set_cons_zero, List.set_cons_succ, List.getElem_toArray, List.getElem_cons_succ, List.getElem_cons_zero]
              refine take_at (some 253) (i := 21) (v := ?_) rfl rfl (by kernel_rfl) (by kernel_rfl) (by kernel_rfl) (fun _ _ _ h => h) (Or.inl ⟨by kernel_rfl, ?_⟩) hHeld ?_
              rotate_left
              · intro wz hSw; go_simp; try (with_reducible rfl)
              try simp only [Act.put, List.setIfInBounds_toArray, List.set_cons_zero, List.set_cons_succ, List.getElem_toArray, List.getElem_cons_succ, List.getElem_cons_zero]
              refine take_at (some 254) (i := 22) (v := ?_) rfl rfl (by kernel_rfl) (by kernel_rfl) (by kernel_rfl) (fun _ _ _ h => h) (Or.inl ⟨by kernel_rfl, ?_⟩) hHeld ?_
              rotate_left
              · intro wz hSw; have e0 : wz.cell? ⟨bb, 0, none⟩ = some (.slice Ar k cr) := hSw.2.2.2.2.cell 0; go_simp; try (with_reducible rfl)
              try simp only [Act.put, List.setIfInBounds_toArray, List.set_cons_zero, List.set_cons_succ, List.getElem_toArray, List.getElem_cons_succ, List.getElem_cons_zero]
              refine take_at (some 255) (i := 23) (v := ?_) rfl rfl (by kernel_rfl) (by kernel_rfl) (by kernel_rfl) (fun _ _ _ h => h) (Or.inl ⟨by kernel_rfl, ?_⟩) hHeld ?_
              rotate_left
              · intro wz hSw; have e0 : wz.cell? ⟨bb, 0, none⟩ = some (.slice Ar k cr) := hSw.2.2.2.2.cell 0; go_simp; try (with_reducible rfl)
              try simp only [Act.put, List.setIfInBounds_toArray, List.set_cons_zero, List.set_cons_succ, List.getElem_toArray, List.getElem_cons_succ, List.getElem_cons_zero]
              refine take_at (some 256) (i := 24) (v := ?_) rfl rfl (by kernel_rfl) (by kernel_rfl) (by kernel_rfl) (fun _ _ _ h => h) (Or.inl ⟨by kernel_rfl, ?_⟩) hHeld ?_
              rotate_left
              · intro wz hSw; have e0 : wz.cell? ⟨bb, 0, none⟩ = some (.slice Ar k cr) := hSw.2.2.2.2.cell 0; go_simp; try (with_reducible rfl)
              try simp only [Act.put, List.setIfInBounds_toArray, List.set_cons_zero, List.set_cons_succ, List.getElem_toArray, List.getElem_cons_succ, List.getElem_cons_zero]
              refine wpAnyH_ready (rs := [20]) (by kernel_rfl) (by simp) (AllReadyH.cons rfl (fun K hK => ?_) AllReadyH.nil)
              rw [if_pos (by kernel_rfl)]
              go_simp
              refine (p_all (HPD.out.on (Below.refl _ _).drew) k HK.out).mono ?_
              rintro e y1 ⟨Aa, ca, rfl, ha, hb1⟩
              try dsimp only
              refine hK.out _ _ (HSS.out y1 ((Below.refl uD.heap.size uD).drew.trans hb1)) (fun hHeld => ?_)
              try simp only [Act.put, List.setIfInBounds_toArray, List.set_cons_zero, List.set_cons_succ, List.getElem_toArray, List.getElem_cons_succ, List.getElem_cons_zero]
              refine wpAnyH_ready (rs := [25]) (by kernel_rfl) (by simp) (AllReadyH.cons rfl (fun K hK => ?_) AllReadyH.nil)
              rw [if_pos (by kernel_rfl)]
              go_simp
              refine (rsame_yes Aa Ar ca cr b2.l y1 k HK.out ha (HRR.out.on ((Below.refl uD.heap.size uD).drew.trans hb1)) (by omega)).mono ?_
              rintro e y2 ⟨rfl, hb2⟩
              try dsimp only
              refine hK.out _ _ (HSS.out y2 (((Below.refl uD.heap.size uD).drew.trans hb1).trans (hb2.mono hb1.size))) (fun hHeld => ?_)
              try simp only [Act.put, List.setIfInBounds_toArray, List.set_cons_zero, List.set_cons_succ, List.getElem_toArray, List.getElem_cons_succ, List.getElem_cons_zero]
              refine take_at (some 258) (i := 26) (v := ?_) rfl rfl (by kernel_rfl) (by kernel_rfl) (by kernel_rfl) (fun _ _ _ h => h) (Or.inl ⟨by kernel_rfl, ?_⟩) hHeld ?_
              rotate_left
              · intro wz hSw; go_simp; try (with_reducible rfl)
              try simp only [Act.put, List.setIfInBounds_toArray, List.set_cons_zero, List.set_cons_succ, List.getElem_toArray, List.getElem_cons_succ, List.getElem_cons_zero]
              refine take_at (some 259) (i := 27) (v := ?_) rfl rfl (by kernel_rfl) (by kernel_rfl) (by kernel_rfl) (fun _ _ _ h => h) (Or.inl ⟨by kernel_rfl, ?_⟩) hHeld ?_
              rotate_left
              · intro wz hSw; go_simp; try (with_reducible rfl)
              try simp only [Act.put, List.setIfInBounds_toArray, List.set_cons_zero, List.set_cons_succ, List.getElem_toArray, List.getElem_cons_succ, List.getElem_cons_zero]
              refine wpAnyH_done (by kernel_rfl) ?_ _
              refine gen_q13 (fun y => Pz W y T2 gb bb g most b2 b2) (HPD.out.on (((Below.refl uD.heap.size uD).drew.trans hb1).trans (hb2.mono hb1.size))) (fun y hy => ?_)
              have HPY := Lib.hid hy
              clear hy hHeld
              go_wp2
              go_roundw
              case rel => exact ⟨i + 1, T2, b2, by omega, by go_num, HPY, HNN⟩
              case measure => simp [intOf]; omega
          have n5 : (ow == 5) = false := by simp [h5]
          by_cases h6 : ow = 6
          · subst h6
            as_aux_lemma =>
              obtain ⟨⟨ox, b2⟩, hR⟩ : ∃ R, lapseL g b oo = R := ⟨_, rfl⟩
              have HR0 := Lib.hid (show (lapseL g b oo).2 = b2 by rw [hR])
              have HR1 := Lib.hid (show (lapseL g b oo).1 = ox by rw [hR])
              clear hR h2 n2 h3 n3 h4 n4 h5 n5
              obtain ⟨n', hn'⟩ : ∃ n', ox.length = n' := ⟨_, rfl⟩
              have HN' := Lib.hid hn'
              have HN'' := Lib.hid (show n' ≤ 64 by rw [← hn', ← HR1.out]; exact Nat.le_trans (lapse_few g b oo) HP.out.ok.few)
              clear hn'
              have HNN := Lib.hid (show b2.nx ≤ ((i + 1 : Nat) : Int) + 1 by have h1 := nx_step HP.out.ok (o := ⟨6, ot, on, oc, oe, oo, ol⟩) (show doL g most b ⟨6, ot, on, oc, oe, oo, ol⟩ = (zeroLs, 0, b2) by unfold doL; dsimp only; rw [if_neg (by decide), if_neg (by decide), if_neg (by decide), if_neg (by decide), if_pos rfl, HR0.out]); have h2 := HNI.out; omega)
              have d0 : u1.cell? ⟨p, 0, none⟩ = some (.int .i64 6) := HO1.out.b.cell 0
              have d1 : u1.cell? ⟨p, 1, none⟩ = some (.string ot) := HO1.out.b.cell 1
              have d2 : u1.cell? ⟨p, 2, none⟩ = some (.string on) := HO1.out.b.cell 2
              have d3 : u1.cell? ⟨p, 3, none⟩ = some (.int .i64 oc) := HO1.out.b.cell 3
              have d4 : u1.cell? ⟨p, 4, none⟩ = some (.int .i64 oe) := HO1.out.b.cell 4
              have d5 : u1.cell? ⟨p, 5, none⟩ = some (.int .i64 oo) := HO1.out.b.cell 5
              have d6 : u1.cell? ⟨p, 6, none⟩ = some (.int .i64 ol) := HO1.out.b.cell 6
              go_upto_region 40 with fail
              clear d0 d1 d2 d3 d4 d5 d6
              try simp only [List.cons_append, List.nil_append]
              refine wp_region_held_drew (S := fun wz => Bk wz p 30 #[.int .i64 6, .string ot, .string on, .int .i64 oc, .int .i64 oe, .int .i64 oo, .int .i64 ol]) (by kernel_rfl) (HO1.out.b.drew) (fun hHeld => ?_)
              refine take_at (some 204) (i := 0) (v := ?_) rfl rfl (by kernel_rfl) (by kernel_rfl) (by kernel_rfl) (fun _ _ _ h => h) (Or.inl ⟨by kernel_rfl, ?_⟩) hHeld ?_
              rotate_left
              · intro wz hSw; go_simp; try (with_reducible rfl)
              try simp only [Act.put, List.setIfInBounds_toArray, List.set_cons_zero, List.set_cons_succ, List.getElem_toArray, List.getElem_cons_succ, List.getElem_cons_zero]
              refine take_at (some 205) (i := 1) (v := ?_) rfl rfl (by kernel_rfl) (by kernel_rfl) (by kernel_rfl) (fun _ _ _ h => h) (Or.inl ⟨by kernel_rfl, ?_⟩) hHeld ?_
              rotate_left
              · intro wz hSw; have d0 : wz.cell? ⟨p, 0, none⟩ = some (.int .i64 6) := hSw.cell 0; have d1 : wz.cell? ⟨p, 1, none⟩ = some (.string ot) := hSw.cell 1; have d2 : wz.cell? ⟨p, 2, none⟩ = some (.string on) := hSw.cell 2; have d3 : wz.cell? ⟨p, 3, none⟩ = some (.int .i64 oc) := hSw.cell 3; have d4 : wz.cell? ⟨p, 4, none⟩ = some (.int .i64 oe) := hSw.cell 4; have d5 : wz.cell? ⟨p, 5, none⟩ = some (.int .i64 oo) := hSw.cell 5; have d6 : wz.cell? ⟨p, 6, none⟩ = some (.int .i64 ol) := hSw.cell 6; go_simp; try (with_reducible rfl)
              try simp only [Act.put, List.setIfInBounds_toArray, List.set_cons_zero, List.set_cons_succ, List.getElem_toArray, List.getElem_cons_succ, List.getElem_cons_zero]
              refine take_at (some 206) (i := 2) (v := ?_) rfl rfl (by kernel_rfl) (by kernel_rfl) (by kernel_rfl) (fun _ _ _ h => h) (Or.inl ⟨by kernel_rfl, ?_⟩) hHeld ?_
              rotate_left
              · intro wz hSw; have d0 : wz.cell? ⟨p, 0, none⟩ = some (.int .i64 6) := hSw.cell 0; have d1 : wz.cell? ⟨p, 1, none⟩ = some (.string ot) := hSw.cell 1; have d2 : wz.cell? ⟨p, 2, none⟩ = some (.string on) := hSw.cell 2; have d3 : wz.cell? ⟨p, 3, none⟩ = some (.int .i64 oc) := hSw.cell 3; have d4 : wz.cell? ⟨p, 4, none⟩ = some (.int .i64 oe) := hSw.cell 4; have d5 : wz.cell? ⟨p, 5, none⟩ = some (.int .i64 oo) := hSw.cell 5; have d6 : wz.cell? ⟨p, 6, none⟩ = some (.int .i64 ol) := hSw.cell 6; go_simp; try (with_reducible rfl)
              try simp only [Act.put, List.setIfInBounds_toArray, List.set_cons_zero, List.set_cons_succ, List.getElem_toArray, List.getElem_cons_succ, List.getElem_cons_zero]
              refine take_at (some 208) (i := 4) (v := ?_) rfl rfl (by kernel_rfl) (by kernel_rfl) (by kernel_rfl) (fun _ _ _ h => h) (Or.inl ⟨by kernel_rfl, ?_⟩) hHeld ?_
              rotate_left
              · intro wz hSw; go_simp; try (with_reducible rfl)
              try simp only [Act.put, List.setIfInBounds_toArray, List.set_cons_zero, List.set_cons_succ, List.getElem_toArray, List.getElem_cons_succ, List.getElem_cons_zero]
              refine take_at (some 209) (i := 5) (v := ?_) rfl rfl (by kernel_rfl) (by kernel_rfl) (by kernel_rfl) (fun _ _ _ h => h) (Or.inl ⟨by kernel_rfl, ?_⟩) hHeld ?_
              rotate_left
              · intro wz hSw; have d0 : wz.cell? ⟨p, 0, none⟩ = some (.int .i64 6) := hSw.cell 0; have d1 : wz.cell? ⟨p, 1, none⟩ = some (.string ot) := hSw.cell 1; have d2 : wz.cell? ⟨p, 2, none⟩ = some (.string on) := hSw.cell 2; have d3 : wz.cell? ⟨p, 3, none⟩ = some (.int .i64 oc) := hSw.cell 3; have d4 : wz.cell? ⟨p, 4, none⟩ = some (.int .i64 oe) := hSw.cell 4; have d5 : wz.cell? ⟨p, 5, none⟩ = some (.int .i64 oo) := hSw.cell 5; have d6 : wz.cell? ⟨p, 6, none⟩ = some (.int .i64 ol) := hSw.cell 6; go_simp; try (with_reducible rfl)
              try simp only [Act.put, List.setIfInBounds_toArray, List.set_cons_zero, List.set_cons_succ, List.getElem_toArray, List.getElem_cons_succ, List.getElem_cons_zero]
              refine take_at (some 210) (i := 6) (v := ?_) rfl rfl (by kernel_rfl) (by kernel_rfl) (by kernel_rfl) (fun _ _ _ h => h) (Or.inl ⟨by kernel_rfl, ?_⟩) hHeld ?_
              rotate_left
              · intro wz hSw; have d0 : wz.cell? ⟨p, 0, none⟩ = some (.int .i64 6) := hSw.cell 0; have d1 : wz.cell? ⟨p, 1, none⟩ = some (.string ot) := hSw.cell 1; have d2 : wz.cell? ⟨p, 2, none⟩ = some (.string on) := hSw.cell 2; have d3 : wz.cell? ⟨p, 3, none⟩ = some (.int .i64 oc) := hSw.cell 3; have d4 : wz.cell? ⟨p, 4, none⟩ = some (.int .i64 oe) := hSw.cell 4; have d5 : wz.cell? ⟨p, 5, none⟩ = some (.int .i64 oo) := hSw.cell 5; have d6 : wz.cell? ⟨p, 6, none⟩ = some (.int .i64 ol) := hSw.cell 6; go_simp; try (with_reducible rfl)
              try simp only [Act.put, List.setIfInBounds_toArray, List.set_cons_zero, List.set_cons_succ, List.getElem_toArray, List.getElem_cons_succ, List.getElem_cons_zero]
              refine wpAnyH_ready (rs := [3]) (by kernel_rfl) (by simp) (AllReadyH.cons rfl (fun K hK => ?_) AllReadyH.nil)
              rw [if_pos (by kernel_rfl)]
              go_simp
              refine (p_lapse (HP1.out.on (Below.refl u1.heap.size u1).drew) oo ox n' b2 HR1.out HR0.out HN'.out).mono ?_
              rintro e y1 ⟨A1, c1, T1, rfl, k1, k2, k3⟩
              try dsimp only
              refine hK.out _ _ (((HO1.out.on (Below.refl u1.heap.size u1).drew).step k3).b) (fun hHeld => ?_)
              try simp only [Act.put, List.setIfInBounds_toArray, List.set_cons_zero, List.set_cons_succ, List.getElem_toArray, List.getElem_cons_succ, List.getElem_cons_zero]
              refine wpAnyH_ready (rs := [7]) (by kernel_rfl) (by simp) (AllReadyH.cons rfl (fun K hK => ?_) AllReadyH.nil)
              rw [if_pos (by kernel_rfl)]
              go_simp
              refine (r_lapse k2 HGK.out oo ox n' b2 HR1.out HR0.out HN'.out).mono ?_
              rintro e y2 ⟨A2, c2, T2, rfl, j1, j2, j3⟩
              try dsimp only
              refine hK.out _ _ ((((HO1.out.on (Below.refl u1.heap.size u1).drew).step k3).step j3).b) (fun hHeld => ?_)
              try simp only [Act.put, List.setIfInBounds_toArray, List.set_cons_zero, List.set_cons_succ, List.getElem_toArray, List.getElem_cons_succ, List.getElem_cons_zero]
              refine wpAnyH_ready (rs := [8]) (by kernel_rfl) (by simp) (AllReadyH.cons rfl (fun K hK => ?_) AllReadyH.nil)
              rw [if_pos (by kernel_rfl)]
              go_simp
              refine (rsame_yes A1 A2 c1 c2 ox y2 n' HN'.out (k1.step j3).rw_ j1 (by have := HN''.out; omega)).mono ?_
              rintro e y3 ⟨rfl, m1⟩
              try dsimp only
              refine hK.out _ _ (((((HO1.out.on (Below.refl u1.heap.size u1).drew).step k3).step j3).on m1).b) (fun hHeld => ?_)
              try simp only [Act.put, List.setIfInBounds_toArray, List.set_cons_zero, List.set_cons_succ, List.getElem_toArray, List.getElem_cons_succ, List.getElem_cons_zero]
              refine take_at (some 213) (i := 9) (v := ?_) rfl rfl (by kernel_rfl) (by kernel_rfl) (by kernel_rfl) (fun _ _ _ h => h) (Or.inl ⟨by kernel_rfl, ?_⟩) hHeld ?_
              rotate_left
              · intro wz hSw; go_simp; try (with_reducible rfl)
              try simp only [Act.put, List.setIfInBounds_toArray, List.set_cons_zero, List.set_cons_succ, List.getElem_toArray, List.getElem_cons_succ, List.getElem_cons_zero]
              refine wpAnyH_done (by kernel_rfl) ?_ _
              refine gen_q13 (fun y => Pz W y T2 gb bb g most b2 b2 ∧ Bz y T2 p 30 #[.int .i64 6, .string ot, .string on, .int .i64 oc, .int .i64 oe, .int .i64 oo, .int .i64 ol] ∧ Bz y T2 px 32 #[.string ⟨#[]⟩, .string ⟨#[]⟩, .int .i64 0, .int .i64 0, .int .i64 0, .bool false] ∧ Bz y T2 py 32 #[.string ⟨#[]⟩, .string ⟨#[]⟩, .int .i64 0, .int .i64 0, .int .i64 0, .bool false]) ⟨j2.on m1, (((HO1.out.on (Below.refl u1.heap.size u1).drew).step k3).step j3).on m1, (((HX1.out.on (Below.refl u1.heap.size u1).drew).step k3).step j3).on m1, (((HY1.out.on (Below.refl u1.heap.size u1).drew).step k3).step j3).on m1⟩ (fun u7 hy => ?_)
              have HPT := Lib.hid hy.1
              have HOT := Lib.hid hy.2.1
              have HXT := Lib.hid hy.2.2.1
              have HYT := Lib.hid hy.2.2.2
              clear hy hHeld k1 k2 k3 j1 j2 j3 m1
              go_upto_region 42 with fail
              have d0 : u7.cell? ⟨p, 0, none⟩ = some (.int .i64 6) := HOT.out.b.cell 0
              have d1 : u7.cell? ⟨p, 1, none⟩ = some (.string ot) := HOT.out.b.cell 1
              have d2 : u7.cell? ⟨p, 2, none⟩ = some (.string on) := HOT.out.b.cell 2
              have d3 : u7.cell? ⟨p, 3, none⟩ = some (.int .i64 oc) := HOT.out.b.cell 3
              have d4 : u7.cell? ⟨p, 4, none⟩ = some (.int .i64 oe) := HOT.out.b.cell 4
              have d5 : u7.cell? ⟨p, 5, none⟩ = some (.int .i64 oo) := HOT.out.b.cell 5
              have d6 : u7.cell? ⟨p, 6, none⟩ = some (.int .i64 ol) := HOT.out.b.cell 6
              obtain ⟨⟨vn, vt, vc, ve, vu, vh⟩, hhv⟩ : ∃ v, (holdL b2 on oo).getD zeroLs = v := ⟨_, rfl⟩
              obtain ⟨hs, hhs⟩ : ∃ v, (holdL b2 on oo).isSome = v := ⟨_, rfl⟩
              have HH1 := Lib.hid hhv
              have HH2 := Lib.hid hhs
              clear hhv hhs
              go_upto_region 43 with (go_at_call 27; (with_reducible refine (p_holder HPT.out on oo HSQ.out.2 _ _ HH1.out HH2.out).mono ?_); rintro e uA ⟨rfl, hb⟩; have HPA := Lib.hid (HPT.out.on hb); have HXA := Lib.hid (HXT.out.on hb); have HYA := Lib.hid (HYT.out.on hb); have HOA := Lib.hid (HOT.out.on hb); clear hb)
              obtain ⟨qh, hq⟩ : ∃ q, uA.heap.size = q := ⟨_, rfl⟩
              obtain ⟨uB, hv⟩ : ∃ v, uA.alloc (.cells #[.string vn, .string vt, .int .i64 vc, .int .i64 ve, .int .i64 vu, .bool vh] 32) = v := ⟨_, rfl⟩
              have HPB := Lib.hid (show Pz W uB T2 gb bb g most b2 b2 by rw [← hv]; exact HPA.out.on ((Below.refl _ _).alloc (Nat.le_refl _) _))
              have HQqh := Lib.hid (show Bz uB T2 qh 32 #[.string vn, .string vt, .int .i64 vc, .int .i64 ve, .int .i64 vu, .bool vh] by rw [← hv, ← hq]; exact Bz.new HPA.out.hi _ _)
              have HZqh := Lib.hid (show uA.heap.size = qh ∧ uA.heap.size ≤ uB.heap.size from ⟨hq, by rw [← hv, World.size_alloc]; omega⟩)
              have HOB := Lib.hid (show Bz uB T2 p 30 #[.int .i64 6, .string ot, .string on, .int .i64 oc, .int .i64 oe, .int .i64 oo, .int .i64 ol] by rw [← hv]; exact HOA.out.alloc _)
              have HXB := Lib.hid (show Bz uB T2 px 32 #[.string ⟨#[]⟩, .string ⟨#[]⟩, .int .i64 0, .int .i64 0, .int .i64 0, .bool false] by rw [← hv]; exact HXA.out.alloc _)
              have HYB := Lib.hid (show Bz uB T2 py 32 #[.string ⟨#[]⟩, .string ⟨#[]⟩, .int .i64 0, .int .i64 0, .int .i64 0, .bool false] by rw [← hv]; exact HYA.out.alloc _)
              try dsimp only
              rw [hv]
              try rw [hq]
              clear hv hq
              clear d0 d1 d2 d3 d4 d5 d6
              have d0 : uB.cell? ⟨p, 0, none⟩ = some (.int .i64 6) := HOB.out.b.cell 0
              have d1 : uB.cell? ⟨p, 1, none⟩ = some (.string ot) := HOB.out.b.cell 1
              have d2 : uB.cell? ⟨p, 2, none⟩ = some (.string on) := HOB.out.b.cell 2
              have d3 : uB.cell? ⟨p, 3, none⟩ = some (.int .i64 oc) := HOB.out.b.cell 3
              have d4 : uB.cell? ⟨p, 4, none⟩ = some (.int .i64 oe) := HOB.out.b.cell 4
              have d5 : uB.cell? ⟨p, 5, none⟩ = some (.int .i64 oo) := HOB.out.b.cell 5
              have d6 : uB.cell? ⟨p, 6, none⟩ = some (.int .i64 ol) := HOB.out.b.cell 6
              go_upto_region 44 with (go_at_call 28; (with_reducible refine (r_holder HPB.out HPB.out.ok on oo _ _ HH1.out HH2.out).mono ?_); rintro e uC ⟨rfl, hb⟩; have HPC := Lib.hid (HPB.out.on hb); have HXC := Lib.hid (HXB.out.on hb); have HYC := Lib.hid (HYB.out.on hb); have HHC := Lib.hid (HQqh.out.on hb); clear hb)
              obtain ⟨qi, hq⟩ : ∃ q, uC.heap.size = q := ⟨_, rfl⟩
              obtain ⟨uD, hv⟩ : ∃ v, uC.alloc (.cells #[.string vn, .string vt, .int .i64 vc, .int .i64 ve, .int .i64 vu, .bool vh] 32) = v := ⟨_, rfl⟩
              have HPD := Lib.hid (show Pz W uD T2 gb bb g most b2 b2 by rw [← hv]; exact HPC.out.on ((Below.refl _ _).alloc (Nat.le_refl _) _))
              have HQqi := Lib.hid (show Bz uD T2 qi 32 #[.string vn, .string vt, .int .i64 vc, .int .i64 ve, .int .i64 vu, .bool vh] by rw [← hv, ← hq]; exact Bz.new HPC.out.hi _ _)
              have HZqi := Lib.hid (show uC.heap.size = qi ∧ uC.heap.size ≤ uD.heap.size from ⟨hq, by rw [← hv, World.size_alloc]; omega⟩)
              have HXD := Lib.hid (show Bz uD T2 px 32 #[.string ⟨#[]⟩, .string ⟨#[]⟩, .int .i64 0, .int .i64 0, .int .i64 0, .bool false] by rw [← hv]; exact HXC.out.alloc _)
              have HYD := Lib.hid (show Bz uD T2 py 32 #[.string ⟨#[]⟩, .string ⟨#[]⟩, .int .i64 0, .int .i64 0, .int .i64 0, .bool false] by rw [← hv]; exact HYC.out.alloc _)
              have HHD2 := Lib.hid (show Bz uD T2 qh 32 #[.string vn, .string vt, .int .i64 vc, .int .i64 ve, .int .i64 vu, .bool vh] by rw [← hv]; exact HHC.out.alloc _)
              try dsimp only
              rw [hv]
              try rw [hq]
              clear hv hq
              clear d0 d1 d2 d3 d4 d5 d6
              obtain ⟨Ar, cr, hr1, hr2⟩ := HPD.out.row
              obtain ⟨k, hk⟩ : ∃ k, b2.l.length = k := ⟨_, rfl⟩
              have HK := Lib.hid hk
              have hk64 : k ≤ 64 := by rw [← hk]; exact HPD.out.ok.few
              rw [hk] at hr1
              have HRB := Lib.hid hr1
              have HRR := Lib.hid hr2
              have HSS := Lib.hid (show ∀ u, Below uD.heap.size uD u → Bk u px 32 #[.string ⟨#[]⟩, .string ⟨#[]⟩, .int .i64 0, .int .i64 0, .int .i64 0, .bool false] ∧ Bk u py 32 #[.string ⟨#[]⟩, .string ⟨#[]⟩, .int .i64 0, .int .i64 0, .int .i64 0, .bool false] ∧ Bk u qh 32 #[.string vn, .string vt, .int .i64 vc, .int .i64 ve, .int .i64 vu, .bool vh] ∧ Bk u qi 32 #[.string vn, .string vt, .int .i64 vc, .int .i64 ve, .int .i64 vu, .bool vh] ∧ Bk u bb 46 (bkc Ar k cr g most b2.nx) from fun u hb => ⟨HXD.out.b.below hb HXD.out.b.lt, HYD.out.b.below hb HYD.out.b.lt, HHD2.out.b.below hb HHD2.out.b.lt, HQqi.out.b.below hb HQqi.out.b.lt, HRB.out.below hb HRB.out.lt⟩)
              clear hk hr1 hr2
              try simp only [List.cons_append, List.nil_append]
              refine wp_region_held_drew (S := fun wz => Bk wz px 32 #[.string ⟨#[]⟩, .string ⟨#[]⟩, .int .i64 0, .int .i64 0, .int .i64 0, .bool false] ∧ Bk wz py 32 #[.string ⟨#[]⟩, .string ⟨#[]⟩, .int .i64 0, .int .i64 0, .int .i64 0, .bool false] ∧ Bk wz qh 32 #[.string vn, .string vt, .int .i64 vc, .int .i64 ve, .int .i64 vu, .bool vh] ∧ Bk wz qi 32 #[.string vn, .string vt, .int .i64 vc, .int .i64 ve, .int .i64 vu, .bool vh] ∧ Bk wz bb 46 (bkc Ar k cr g most b2.nx)) (by kernel_rfl) (HSS.out _ (Below.refl _ _).drew) (fun hHeld => ?_)
              refine take_at (some 232) (i := 0) (v := ?_) rfl rfl (by kernel_rfl) (by kernel_rfl) (by kernel_rfl) (fun _ _ _ h => h) (Or.inl ⟨by kernel_rfl, ?_⟩) hHeld ?_
              rotate_left
              · intro wz hSw; have x0 : wz.cell? ⟨px, 0, none⟩ = some (.string ⟨#[]⟩) := hSw.1.cell 0; have x1 : wz.cell? ⟨px, 1, none⟩ = some (.string ⟨#[]⟩) := hSw.1.cell 1; have x2 : wz.cell? ⟨px, 2, none⟩ = some (.int .i64 0) := hSw.1.cell 2; have x3 : wz.cell? ⟨px, 3, none⟩ = some (.int .i64 0) := hSw.1.cell 3; have x4 : wz.cell? ⟨px, 4, none⟩ = some (.int .i64 0) := hSw.1.cell 4; have x5 : wz.cell? ⟨px, 5, none⟩ = some (.bool false) := hSw.1.cell 5; go_simp; try (with_reducible rfl)
              try simp only [Act.put, List.setIfInBounds_toArray, List.set_cons_zero, List.set_cons_succ, List.getElem_toArray, List.getElem_cons_succ, List.getElem_cons_zero]
              refine take_at (some 233) (i := 1) (v := ?_) rfl rfl (by kernel_rfl) (by kernel_rfl) (by kernel_rfl) (fun _ _ _ h => h) (Or.inl ⟨by kernel_rfl, ?_⟩) hHeld ?_
              rotate_left
              · intro wz hSw; have y0 : wz.cell? ⟨py, 0, none⟩ = some (.string ⟨#[]⟩) := hSw.2.1.cell 0; have y1 : wz.cell? ⟨py, 1, none⟩ = some (.string ⟨#[]⟩) := hSw.2.1.cell 1; have y2 : wz.cell? ⟨py, 2, none⟩ = some (.int .i64 0) := hSw.2.1.cell 2; have y3 : wz.cell? ⟨py, 3, none⟩ = some (.int .i64 0) := hSw.2.1.cell 3; have y4 : wz.cell? ⟨py, 4, none⟩ = some (.int .i64 0) := hSw.2.1.cell 4; have y5 : wz.cell? ⟨py, 5, none⟩ = some (.bool false) := hSw.2.1.cell 5; go_simp; try (with_reducible rfl)
              try simp only [Act.put, List.setIfInBounds_toArray, List.set_cons_zero, List.set_cons_succ, List.getElem_toArray, List.getElem_cons_succ, List.getElem_cons_zero]
              refine take_at (some 234) (i := 2) rfl rfl (by kernel_rfl) (by kernel_rfl) (by kernel_rfl) (fun _ _ _ h => h) (yieldsIf_nls (by kernel_rfl) (.tmp 232) (.tmp 233) _ rfl ⟨⟨#[]⟩, ⟨#[]⟩, 0, 0, 0, false⟩ rfl rfl) hHeld ?_
              try simp only [Act.put, List.setIfInBounds_toArray, List.set_cons_zero, List.set_cons_succ, List.getElem_toArray, List.getElem_cons_succ, List.getElem_cons_zero]
              refine take_at (some 235) (i := 3) (v := ?_) rfl rfl (by kernel_rfl) (by kernel_rfl) (by kernel_rfl) (fun _ _ _ h => h) (Or.inl ⟨by kernel_rfl, ?_⟩) hHeld ?_
              rotate_left
              · intro wz hSw; go_simp; try (with_reducible rfl)
              try simp only [Act.put, List.setIfInBounds_toArray, List.set_cons_zero, List.set_cons_succ, List.getElem_toArray, List.getElem_cons_succ, List.getElem_cons_zero]
              refine take_at (some 236) (i := 4) (v := ?_) rfl rfl (by kernel_rfl) (by kernel_rfl) (by kernel_rfl) (fun _ _ _ h => h) (Or.inl ⟨by kernel_rfl, ?_⟩) hHeld ?_
              rotate_left
              · intro wz hSw; go_simp; try (with_reducible rfl)
              try simp only [Act.put, List.setIfInBounds_toArray, List.set_cons_zero, List.set_cons_succ, List.getElem_toArray, List.getElem_cons_succ, List.getElem_cons_zero]
              refine take_at (some 237) (i := 5) (v := ?_) rfl rfl (by kernel_rfl) (by kernel_rfl) (by kernel_rfl) (fun _ _ _ h => h) (Or.inl ⟨by kernel_rfl, ?_⟩) hHeld ?_
              rotate_left
              · intro wz hSw; go_simp; try (with_reducible rfl)
              try simp only [Act.put, List.setIfInBounds_toArray, List.set_cons_zero, List.set_cons_succ, List.getElem_toArray, List.getElem_cons_succ, List.getElem_cons_zero]
              refine take_at (some 238) (i := 6) (v := ?_) rfl rfl (by kernel_rfl) (by kernel_rfl) (by kernel_rfl) (fun _ _ _ h => h) (Or.inl ⟨by kernel_rfl, ?_⟩) hHeld ?_
              rotate_left
              · intro wz hSw; go_simp; try (with_reducible rfl)
              try simp only [Act.put, List.setIfInBounds_toArray, List.set_cons_zero, List.set_cons_succ, List.getElem_toArray, List.getElem_cons_succ, List.getElem_cons_zero]
              refine take_at (some 239) (i := 7) (v := ?_) rfl rfl (by kernel_rfl) (by kernel_rfl) (by kernel_rfl) (fun _ _ _ h => h) (Or.inl ⟨by kernel_rfl, ?_⟩) hHeld ?_
              rotate_left
              · intro wz hSw; go_simp; try (with_reducible rfl)
              try simp only [Act.put, List.setIfInBounds_toArray, List.set_cons_zero, List.set_cons_succ, List.getElem_toArray, List.getElem_cons_succ, List.getElem_cons_zero]
              refine take_at (some 240) (i := 8) (v := ?_) rfl rfl (by kernel_rfl) (by kernel_rfl) (by kernel_rfl) (fun _ _ _ h => h) (Or.inl ⟨by kernel_rfl, ?_⟩) hHeld ?_
              rotate_left
              · intro wz hSw; go_simp; try (with_reducible rfl)
              try simp only [Act.put, List.setIfInBounds_toArray, List.set_cons_zero, List.set_cons_succ, List.getElem_toArray, List.getElem_cons_succ, List.getElem_cons_zero]
              refine take_at (some 241) (i := 9) (v := ?_) rfl rfl (by kernel_rfl) (by kernel_rfl) (by kernel_rfl) (fun _ _ _ h => h) (Or.inl ⟨by kernel_rfl, ?_⟩) hHeld ?_
              rotate_left
              · intro wz hSw; have h0 : wz.cell? ⟨qh, 0, none⟩ = some (.string vn) := hSw.2.2.1.cell 0; have h1 : wz.cell? ⟨qh, 1, none⟩ = some (.string vt) := hSw.2.2.1.cell 1; have h2 : wz.cell? ⟨qh, 2, none⟩ = some (.int .i64 vc) := hSw.2.2.1.cell 2; have h3 : wz.cell? ⟨qh, 3, none⟩ = some (.int .i64 ve) := hSw.2.2.1.cell 3; have h4 : wz.cell? ⟨qh, 4, none⟩ = some (.int .i64 vu) := hSw.2.2.1.cell 4; have h5 : wz.cell? ⟨qh, 5, none⟩ = some (.bool vh) := hSw.2.2.1.cell 5; go_simp; try (with_reducible rfl)
              try simp only [Act.put, List.setIfInBounds_toArray, List.set_cons_zero, List.set_cons_succ, List.getElem_toArray, List.getElem_cons_succ, List.getElem_cons_zero]
              refine take_at (some 242) (i := 10) (v := ?_) rfl rfl (by kernel_rfl) (by kernel_rfl) (by kernel_rfl) (fun _ _ _ h => h) (Or.inl ⟨by kernel_rfl, ?_⟩) hHeld ?_
              rotate_left
              · intro wz hSw; have h0 : wz.cell? ⟨qi, 0, none⟩ = some (.string vn) := hSw.2.2.2.1.cell 0; have h1 : wz.cell? ⟨qi, 1, none⟩ = some (.string vt) := hSw.2.2.2.1.cell 1; have h2 : wz.cell? ⟨qi, 2, none⟩ = some (.int .i64 vc) := hSw.2.2.2.1.cell 2; have h3 : wz.cell? ⟨qi, 3, none⟩ = some (.int .i64 ve) := hSw.2.2.2.1.cell 3; have h4 : wz.cell? ⟨qi, 4, none⟩ = some (.int .i64 vu) := hSw.2.2.2.1.cell 4; have h5 : wz.cell? ⟨qi, 5, none⟩ = some (.bool vh) := hSw.2.2.2.1.cell 5; go_simp; try (with_reducible rfl)
              try simp only [Act.put, List.setIfInBounds_toArray, List.set_cons_zero, List.set_cons_succ, List.getElem_toArray, List.getElem_cons_succ, List.getElem_cons_zero]
              refine take_at (some 243) (i := 11) rfl rfl (by kernel_rfl) (by kernel_rfl) (by kernel_rfl) (fun _ _ _ h => h) (yieldsIf_nls (by kernel_rfl) (.tmp 241) (.tmp 242) _ rfl ⟨vn, vt, vc, ve, vu, vh⟩ rfl rfl) hHeld ?_
              try simp only [Act.put, List.setIfInBounds_toArray, List.set_cons_zero, List.set_cons_succ, List.getElem_toArray, List.getElem_cons_succ, List.getElem_cons_zero]
              refine take_at (some 244) (i := 12) (v := ?_) rfl rfl (by kernel_rfl) (by kernel_rfl) (by kernel_rfl) (fun _ _ _ h => h) (Or.inl ⟨by kernel_rfl, ?_⟩) hHeld ?_
              rotate_left
              · intro wz hSw; go_simp; try (with_reducible rfl)
              try simp only [Act.put, List.setIfInBounds_toArray, List.set_cons_zero, List.set_cons_succ, List.getElem_toArray, List.getElem_cons_succ, List.getElem_cons_zero]
              refine take_at (some 245) (i := 13) (v := ?_) rfl rfl (by kernel_rfl) (by kernel_rfl) (by kernel_rfl) (fun _ _ _ h => h) (Or.inl ⟨by kernel_rfl, ?_⟩) hHeld ?_
              rotate_left
              · intro wz hSw; go_simp; try (with_reducible rfl)
              try simp only [Act.put, List.setIfInBounds_toArray, List.set_cons_zero, List.set_cons_succ, List.getElem_toArray, List.getElem_cons_succ, List.getElem_cons_zero]
              refine take_at (some 246) (i := 14) (v := ?_) rfl rfl (by kernel_rfl) (by kernel_rfl) (by kernel_rfl) (fun _ _ _ h => h) (Or.inl ⟨by kernel_rfl, ?_⟩) hHeld ?_
              rotate_left
              · intro wz hSw; go_simp; try (with_reducible rfl)
              try simp only [Act.put, List.setIfInBounds_toArray, List.set_cons_zero, List.set_cons_succ, List.getElem_toArray, List.getElem_cons_succ, List.getElem_cons_zero]
              refine take_at (some 247) (i := 15) (v := ?_) rfl rfl (by kernel_rfl) (by kernel_rfl) (by kernel_rfl) (fun _ _ _ h => h) (Or.inl ⟨by kernel_rfl, ?_⟩) hHeld ?_
              rotate_left
              · intro wz hSw; go_simp; try (with_reducible rfl)
              try simp only [Act.put, List.setIfInBounds_toArray, List.set_cons_zero, List.set_cons_succ, List.getElem_toArray, List.getElem_cons_succ, List.getElem_cons_zero]
              refine take_at (some 248) (i := 16) (v := ?_) rfl rfl (by kernel_rfl) (by kernel_rfl) (by kernel_rfl) (fun _ _ _ h => h) (Or.inl ⟨by kernel_rfl, ?_⟩) hHeld ?_
              rotate_left
              · intro wz hSw; go_simp; try (with_reducible rfl)
              try simp only [Act.put, List.setIfInBounds_toArray, List.set_cons_zero, List.set_cons_succ, List.getElem_toArray, List.getElem_cons_succ, List.getElem_cons_zero]
              refine take_at (some 249) (i := 17) (v := ?_) rfl rfl (by kernel_rfl) (by kernel_rfl) (by kernel_rfl) (fun _ _ _ h => h) (Or.inl ⟨by kernel_rfl, ?_⟩) hHeld ?_
              rotate_left
              · intro wz hSw; go_simp; try (with_reducible rfl)
              try simp only [Act.put, List.setIfInBounds_toArray, List.set_cons_zero, List.set_cons_succ, List.getElem_toArray, List.getElem_cons_succ, List.getElem_cons_zero]
              refine take_at (some 250) (i := 18) (v := ?_) rfl rfl (by kernel_rfl) (by kernel_rfl) (by kernel_rfl) (fun _ _ _ h => h) (Or.inl ⟨by kernel_rfl, ?_⟩) hHeld ?_
              rotate_left
              · intro wz hSw; go_simp; try (with_reducible rfl)
              try simp only [Act.put, List.setIfInBounds_toArray, List.set_cons_zero, List.set_cons_succ, List.getElem_toArray, List.getElem_cons_succ, List.getElem_cons_zero]
              refine take_at (some 251) (i := 19) (v := ?_) rfl rfl (by kernel_rfl) (by kernel_rfl) (by kernel_rfl) (fun _ _ _ h => h) (Or.inl ⟨by kernel_rfl, ?_⟩) hHeld ?_
              rotate_left
              · intro wz hSw; go_simp; try (with_reducible rfl)
              try simp only [Act.put, List.setIfInBounds_toArray, List.set_cons_zero, List.set_cons_succ, List.getElem_toArray, List.getElem_cons_succ, List.getElem_cons_zero]
              refine take_at (some 253) (i := 21) (v := ?_) rfl rfl (by kernel_rfl) (by kernel_rfl) (by kernel_rfl) (fun _ _ _ h => h) (Or.inl ⟨by kernel_rfl, ?_⟩) hHeld ?_
              rotate_left
              · intro wz hSw; go_simp; try (with_reducible rfl)
              try simp only [Act.put, List.setIfInBounds_toArray, List.set_cons_zero, List.set_cons_succ, List.getElem_toArray, List.getElem_cons_succ, List.getElem_cons_zero]
              refine take_at (some 254) (i := 22) (v := ?_) rfl rfl (by kernel_rfl) (by kernel_rfl) (by kernel_rfl) (fun _ _ _ h => h) (Or.inl ⟨by kernel_rfl, ?_⟩) hHeld ?_
              rotate_left
              · intro wz hSw; have e0 : wz.cell? ⟨bb, 0, none⟩ = some (.slice Ar k cr) := hSw.2.2.2.2.cell 0; go_simp; try (with_reducible rfl)
              try simp only [Act.put, List.setIfInBounds_toArray, List.set_cons_zero, List.set_cons_succ, List.getElem_toArray, List.getElem_cons_succ, List.getElem_cons_zero]
              refine take_at (some 255) (i := 23) (v := ?_) rfl rfl (by kernel_rfl) (by kernel_rfl) (by kernel_rfl) (fun _ _ _ h => h) (Or.inl ⟨by kernel_rfl, ?_⟩) hHeld ?_
              rotate_left
              · intro wz hSw; have e0 : wz.cell? ⟨bb, 0, none⟩ = some (.slice Ar k cr) := hSw.2.2.2.2.cell 0; go_simp; try (with_reducible rfl)
              try simp only [Act.put, List.setIfInBounds_toArray, List.set_cons_zero, List.set_cons_succ, List.getElem_toArray, List.getElem_cons_succ, List.getElem_cons_zero]
              refine take_at (some 256) (i := 24) (v := ?_) rfl rfl (by kernel_rfl) (by kernel_rfl) (by kernel_rfl) (fun _ _ _ h => h) (Or.inl ⟨by kernel_rfl, ?_⟩) hHeld ?_
              rotate_left
              · intro wz hSw; have e0 : wz.cell? ⟨bb, 0, none⟩ = some (.slice Ar k cr) := hSw.2.2.2.2.cell 0; go_simp; try (with_reducible rfl)
              try simp only [Act.put, List.setIfInBounds_toArray, List.set_cons_zero, List.set_cons_succ, List.getElem_toArray, List.getElem_cons_succ, List.getElem_cons_zero]
              refine wpAnyH_ready (rs := [20]) (by kernel_rfl) (by simp) (AllReadyH.cons rfl (fun K hK => ?_) AllReadyH.nil)
              rw [if_pos (by kernel_rfl)]
              go_simp
              refine (p_all (HPD.out.on (Below.refl _ _).drew) k HK.out).mono ?_
              rintro e y1 ⟨Aa, ca, rfl, ha, hb1⟩
              try dsimp only
              refine hK.out _ _ (HSS.out y1 ((Below.refl uD.heap.size uD).drew.trans hb1)) (fun hHeld => ?_)
              try simp only [Act.put, List.setIfInBounds_toArray, List.set_cons_zero, List.set_cons_succ, List.getElem_toArray, List.getElem_cons_succ, List.getElem_cons_zero]
              refine wpAnyH_ready (rs := [25]) (by kernel_rfl) (by simp) (AllReadyH.cons rfl (fun K hK => ?_) AllReadyH.nil)
              rw [if_pos (by kernel_rfl)]
              go_simp
              refine (rsame_yes Aa Ar ca cr b2.l y1 k HK.out ha (HRR.out.on ((Below.refl uD.heap.size uD).drew.trans hb1)) (by omega)).mono ?_
              rintro e y2 ⟨rfl, hb2⟩
              try dsimp only
              refine hK.out _ _ (HSS.out y2 (((Below.refl uD.heap.size uD).drew.trans hb1).trans (hb2.mono hb1.size))) (fun hHeld => ?_)
              try simp only [Act.put, List.setIfInBounds_toArray, List.set_cons_zero, List.set_cons_succ, List.getElem_toArray, List.getElem_cons_succ, List.getElem_cons_zero]
              refine take_at (some 258) (i := 26) (v := ?_) rfl rfl (by kernel_rfl) (by kernel_rfl) (by kernel_rfl) (fun _ _ _ h => h) (Or.inl ⟨by kernel_rfl, ?_⟩) hHeld ?_
              rotate_left
              · intro wz hSw; go_simp; try (with_reducible rfl)
              try simp only [Act.put, List.setIfInBounds_toArray, List.set_cons_zero, List.set_cons_succ, List.getElem_toArray, List.getElem_cons_succ, List.getElem_cons_zero]
              refine take_at (some 259) (i := 27) (v := ?_) rfl rfl (by kernel_rfl) (by kernel_rfl) (by kernel_rfl) (fun _ _ _ h => h) (Or.inl ⟨by kernel_rfl, ?_⟩) hHeld ?_
              rotate_left
              · intro wz hSw; go_simp; try (with_reducible rfl)
              try simp only [Act.put, List.setIfInBounds_toArray, List.set_cons_zero, List.set_cons_succ, List.getElem_toArray, List.getElem_cons_succ, List.getElem_cons_zero]
              refine wpAnyH_done (by kernel_rfl) ?_ _
              refine gen_q13 (fun y => Pz W y T2 gb bb g most b2 b2) (HPD.out.on (((Below.refl uD.heap.size uD).drew.trans hb1).trans (hb2.mono hb1.size))) (fun y hy => ?_)
              have HPY := Lib.hid hy
              clear hy hHeld
              go_wp2
              go_roundw
              case rel => exact ⟨i + 1, T2, b2, by omega, by go_num, HPY, HNN⟩
              case measure => simp [intOf]; omega
          have n6 : (ow == 6) = false := by simp [h6]
          as_aux_lemma =>
            obtain ⟨⟨⟨xn, xt, xc, xe, xu, xh⟩, er, b2⟩, hR⟩ : ∃ R, claimL g most b ot on oc oo ol = R := ⟨_, rfl⟩
            have HR0 := Lib.hid hR
            have HNN := Lib.hid (show b2.nx ≤ ((i + 1 : Nat) : Int) + 1 by have k1 := nx_step HP.out.ok (o := ⟨ow, ot, on, oc, oe, oo, ol⟩) (show doL g most b ⟨ow, ot, on, oc, oe, oo, ol⟩ = (⟨xn, xt, xc, xe, xu, xh⟩, er, b2) by unfold doL; dsimp only; rw [if_neg h2, if_neg h3, if_neg h4, if_neg h5, if_neg h6, hR]); have k2 := HNI.out; omega)
            clear hR h2 h3 h4 h5 h6
            have d0 : u1.cell? ⟨p, 0, none⟩ = some (.int .i64 ow) := HO1.out.b.cell 0
            have d1 : u1.cell? ⟨p, 1, none⟩ = some (.string ot) := HO1.out.b.cell 1
            have d2 : u1.cell? ⟨p, 2, none⟩ = some (.string on) := HO1.out.b.cell 2
            have d3 : u1.cell? ⟨p, 3, none⟩ = some (.int .i64 oc) := HO1.out.b.cell 3
            have d4 : u1.cell? ⟨p, 4, none⟩ = some (.int .i64 oe) := HO1.out.b.cell 4
            have d5 : u1.cell? ⟨p, 5, none⟩ = some (.int .i64 oo) := HO1.out.b.cell 5
            have d6 : u1.cell? ⟨p, 6, none⟩ = some (.int .i64 ol) := HO1.out.b.cell 6
            go_upto_region 14 with (go_at_call 25; (with_reducible refine (p_claim HP1.out ot on oc oo ol HSQ.out.1 HSQ.out.2 HNX.out _ HR0.out).mono ?_); rintro e u2 ⟨T2, rfl, h1, h2⟩; have HP2 := Lib.hid h1; have HS2 := Lib.hid h2; clear h1 h2)
            have HO2 := Lib.hid (HO1.out.step HS2.out)
            have HX2 := Lib.hid (HX1.out.step HS2.out)
            have HY2 := Lib.hid (HY1.out.step HS2.out)
            obtain ⟨qa, hq⟩ : ∃ q, u2.heap.size = q := ⟨_, rfl⟩
            obtain ⟨u3, hv⟩ : ∃ v, u2.alloc (.cells #[.string xn, .string xt, .int .i64 xc, .int .i64 xe, .int .i64 xu, .bool xh] 32) = v := ⟨_, rfl⟩
            have HP3 := Lib.hid (show Pz W u3 T2 gb bb g most b2 b by rw [← hv]; exact HP2.out.on ((Below.refl _ _).alloc (Nat.le_refl _) _))
            have HQqa := Lib.hid (show Bz u3 T2 qa 32 #[.string xn, .string xt, .int .i64 xc, .int .i64 xe, .int .i64 xu, .bool xh] by rw [← hv, ← hq]; exact Bz.new HP2.out.hi _ _)
            have HZqa := Lib.hid (show u2.heap.size = qa ∧ u2.heap.size ≤ u3.heap.size from ⟨hq, by rw [← hv, World.size_alloc]; omega⟩)
            have HO3 := Lib.hid (show Bz u3 T2 p 30 #[.int .i64 ow, .string ot, .string on, .int .i64 oc, .int .i64 oe, .int .i64 oo, .int .i64 ol] by rw [← hv]; exact HO2.out.alloc _)
            have HX3 := Lib.hid (show Bz u3 T2 px 32 #[.string ⟨#[]⟩, .string ⟨#[]⟩, .int .i64 0, .int .i64 0, .int .i64 0, .bool false] by rw [← hv]; exact HX2.out.alloc _)
            have HY3 := Lib.hid (show Bz u3 T2 py 32 #[.string ⟨#[]⟩, .string ⟨#[]⟩, .int .i64 0, .int .i64 0, .int .i64 0, .bool false] by rw [← hv]; exact HY2.out.alloc _)
            try dsimp only
            rw [hv]
            try rw [hq]
            clear hv hq
            clear d0 d1 d2 d3 d4 d5 d6
            have d0 : u3.cell? ⟨p, 0, none⟩ = some (.int .i64 ow) := HO3.out.b.cell 0
            have d1 : u3.cell? ⟨p, 1, none⟩ = some (.string ot) := HO3.out.b.cell 1
            have d2 : u3.cell? ⟨p, 2, none⟩ = some (.string on) := HO3.out.b.cell 2
            have d3 : u3.cell? ⟨p, 3, none⟩ = some (.int .i64 oc) := HO3.out.b.cell 3
            have d4 : u3.cell? ⟨p, 4, none⟩ = some (.int .i64 oe) := HO3.out.b.cell 4
            have d5 : u3.cell? ⟨p, 5, none⟩ = some (.int .i64 oo) := HO3.out.b.cell 5
            have d6 : u3.cell? ⟨p, 6, none⟩ = some (.int .i64 ol) := HO3.out.b.cell 6
            go_upto_region 15 with (go_at_call 26; (with_reducible refine (r_claim HP3.out HGK.out ot on oc oo ol HSQ.out.1 HSQ.out.2 HNX.out _ HR0.out).mono ?_); rintro e u4 ⟨T4, rfl, h1, h2⟩; have HP4 := Lib.hid h1; have HS4 := Lib.hid h2; clear h1 h2)
            have HO4 := Lib.hid (HO3.out.step HS4.out)
            have HX4 := Lib.hid (HX3.out.step HS4.out)
            have HY4 := Lib.hid (HY3.out.step HS4.out)
            have HQ4 := Lib.hid (HQqa.out.step HS4.out)
            obtain ⟨qb, hq⟩ : ∃ q, u4.heap.size = q := ⟨_, rfl⟩
            obtain ⟨u5, hv⟩ : ∃ v, u4.alloc (.cells #[.string xn, .string xt, .int .i64 xc, .int .i64 xe, .int .i64 xu, .bool xh] 32) = v := ⟨_, rfl⟩
            have HP5 := Lib.hid (show Pz W u5 T4 gb bb g most b2 b2 by rw [← hv]; exact HP4.out.on ((Below.refl _ _).alloc (Nat.le_refl _) _))
            have HQqb := Lib.hid (show Bz u5 T4 qb 32 #[.string xn, .string xt, .int .i64 xc, .int .i64 xe, .int .i64 xu, .bool xh] by rw [← hv, ← hq]; exact Bz.new HP4.out.hi _ _)
            have HZqb := Lib.hid (show u4.heap.size = qb ∧ u4.heap.size ≤ u5.heap.size from ⟨hq, by rw [← hv, World.size_alloc]; omega⟩)
            have HO5 := Lib.hid (show Bz u5 T4 p 30 #[.int .i64 ow, .string ot, .string on, .int .i64 oc, .int .i64 oe, .int .i64 oo, .int .i64 ol] by rw [← hv]; exact HO4.out.alloc _)
            have HX5 := Lib.hid (show Bz u5 T4 px 32 #[.string ⟨#[]⟩, .string ⟨#[]⟩, .int .i64 0, .int .i64 0, .int .i64 0, .bool false] by rw [← hv]; exact HX4.out.alloc _)
            have HY5 := Lib.hid (show Bz u5 T4 py 32 #[.string ⟨#[]⟩, .string ⟨#[]⟩, .int .i64 0, .int .i64 0, .int .i64 0, .bool false] by rw [← hv]; exact HY4.out.alloc _)
            have HQ5 := Lib.hid (show Bz u5 T4 qa 32 #[.string xn, .string xt, .int .i64 xc, .int .i64 xe, .int .i64 xu, .bool xh] by rw [← hv]; exact HQ4.out.alloc _)
            try dsimp only
            rw [hv]
            try rw [hq]
            clear hv hq
            clear d0 d1 d2 d3 d4 d5 d6
            have HQB := Lib.hid (show p + 3 ≤ qb by have h1 := HS2.out.k.size; have h2 := HZqa.out; have h3 := HS4.out.k.size; have h4 := HZqb.out; have h5 := HPP.out; omega)
            have HQL := Lib.hid (show qb ≠ py ∧ qb ≠ px from by have := HQB.out; have := HPP.out; omega)
            have y0 : u5.cell? ⟨qa, 0, none⟩ = some (.string xn) := HQ5.out.b.cell 0
            have y1 : u5.cell? ⟨qa, 1, none⟩ = some (.string xt) := HQ5.out.b.cell 1
            have y2 : u5.cell? ⟨qa, 2, none⟩ = some (.int .i64 xc) := HQ5.out.b.cell 2
            have y3 : u5.cell? ⟨qa, 3, none⟩ = some (.int .i64 xe) := HQ5.out.b.cell 3
            have y4 : u5.cell? ⟨qa, 4, none⟩ = some (.int .i64 xu) := HQ5.out.b.cell 4
            have y5 : u5.cell? ⟨qa, 5, none⟩ = some (.bool xh) := HQ5.out.b.cell 5
            have k0 := HQ5.out.b.frozen 0
            have k1 := HQ5.out.b.frozen 1
            have k2 := HQ5.out.b.frozen 2
            have k3 := HQ5.out.b.frozen 3
            have k4 := HQ5.out.b.frozen 4
            have k5 := HQ5.out.b.frozen 5
            have z0 : u5.cell? ⟨px, 0, none⟩ = some (.string ⟨#[]⟩) := HX5.out.b.cell 0
            have z1 : u5.cell? ⟨px, 1, none⟩ = some (.string ⟨#[]⟩) := HX5.out.b.cell 1
            have z2 : u5.cell? ⟨px, 2, none⟩ = some (.int .i64 0) := HX5.out.b.cell 2
            have z3 : u5.cell? ⟨px, 3, none⟩ = some (.int .i64 0) := HX5.out.b.cell 3
            have z4 : u5.cell? ⟨px, 4, none⟩ = some (.int .i64 0) := HX5.out.b.cell 4
            have z5 : u5.cell? ⟨px, 5, none⟩ = some (.bool false) := HX5.out.b.cell 5
            have m0 := HX5.out.b.frozen 0
            have m1 := HX5.out.b.frozen 1
            have m2 := HX5.out.b.frozen 2
            have m3 := HX5.out.b.frozen 3
            have m4 := HX5.out.b.frozen 4
            have m5 := HX5.out.b.frozen 5
            go_upto_region 16 with fail
            obtain ⟨u6, hu4⟩ : ∃ v, Proofs.Ytpbobmiajjgekaa.set6 u5 px (.string xn) (.string xt) (.int .i64 xc) (.int .i64 xe) (.int .i64 xu) (.bool xh) = v := ⟨_, rfl⟩
            have hu4' := hu4
            try unfold Proofs.Ytpbobmiajjgekaa.set6 at hu4'
            have hpx := HPP.out
            have HW6 := Lib.hid (show W.heap.size ≤ px ∧ W.heap.size ≤ py by omega)
            have HP6 := Lib.hid (show Pz W u6 T4 gb bb g most b2 b2 by rw [← hu4]; exact HP5.out.set6 HX5.out.n HW6.out.1 _ _ _ _ _ _)
            have HX6 := Lib.hid (show Bz u6 T4 px 32 #[.string xn, .string xt, .int .i64 xc, .int .i64 xe, .int .i64 xu, .bool xh] from ⟨by rw [← hu4]; exact HX5.out.b.set6 _ _ _ _ _ _, HX5.out.n⟩)
            have HY6 := Lib.hid (show Bz u6 T4 py 32 #[.string ⟨#[]⟩, .string ⟨#[]⟩, .int .i64 0, .int .i64 0, .int .i64 0, .bool false] from ⟨by rw [← hu4]; exact HY5.out.b.set6Far (by omega) _ _ _ _ _ _, HY5.out.n⟩)
            have HO6 := Lib.hid (show Bz u6 T4 p 30 #[.int .i64 ow, .string ot, .string on, .int .i64 oc, .int .i64 oe, .int .i64 oo, .int .i64 ol] from ⟨by rw [← hu4]; exact HO5.out.b.set6Far (by omega) _ _ _ _ _ _, HO5.out.n⟩)
            have HB6 := Lib.hid (show Bz u6 T4 qb 32 #[.string xn, .string xt, .int .i64 xc, .int .i64 xe, .int .i64 xu, .bool xh] from ⟨by rw [← hu4]; exact HQqb.out.b.set6Far (fun e => HQL.out.2 e.symm) _ _ _ _ _ _, HQqb.out.n⟩)
            clear hpx
            try rw [hu4']
            try rw [hu4]
            clear hu4 hu4'
            clear y0 y1 y2 y3 y4 y5 k0 k1 k2 k3 k4 k5
            clear z0 z1 z2 z3 z4 z5 m0 m1 m2 m3 m4 m5
            have y0 : u6.cell? ⟨qb, 0, none⟩ = some (.string xn) := HB6.out.b.cell 0
            have y1 : u6.cell? ⟨qb, 1, none⟩ = some (.string xt) := HB6.out.b.cell 1
            have y2 : u6.cell? ⟨qb, 2, none⟩ = some (.int .i64 xc) := HB6.out.b.cell 2
            have y3 : u6.cell? ⟨qb, 3, none⟩ = some (.int .i64 xe) := HB6.out.b.cell 3
            have y4 : u6.cell? ⟨qb, 4, none⟩ = some (.int .i64 xu) := HB6.out.b.cell 4
            have y5 : u6.cell? ⟨qb, 5, none⟩ = some (.bool xh) := HB6.out.b.cell 5
            have k0 := HB6.out.b.frozen 0
            have k1 := HB6.out.b.frozen 1
            have k2 := HB6.out.b.frozen 2
            have k3 := HB6.out.b.frozen 3
            have k4 := HB6.out.b.frozen 4
            have k5 := HB6.out.b.frozen 5
            have z0 : u6.cell? ⟨py, 0, none⟩ = some (.string ⟨#[]⟩) := HY6.out.b.cell 0
            have z1 : u6.cell? ⟨py, 1, none⟩ = some (.string ⟨#[]⟩) := HY6.out.b.cell 1
            have z2 : u6.cell? ⟨py, 2, none⟩ = some (.int .i64 0) := HY6.out.b.cell 2
            have z3 : u6.cell? ⟨py, 3, none⟩ = some (.int .i64 0) := HY6.out.b.cell 3
            have z4 : u6.cell? ⟨py, 4, none⟩ = some (.int .i64 0) := HY6.out.b.cell 4
            have z5 : u6.cell? ⟨py, 5, none⟩ = some (.bool false) := HY6.out.b.cell 5
            have m0 := HY6.out.b.frozen 0
            have m1 := HY6.out.b.frozen 1
            have m2 := HY6.out.b.frozen 2
            have m3 := HY6.out.b.frozen 3
            have m4 := HY6.out.b.frozen 4
            have m5 := HY6.out.b.frozen 5
            go_upto_region 42 with fail
            obtain ⟨u7, hu4⟩ : ∃ v, Proofs.Ytpbobmiajjgekaa.set6 u6 py (.string xn) (.string xt) (.int .i64 xc) (.int .i64 xe) (.int .i64 xu) (.bool xh) = v := ⟨_, rfl⟩
            have hu4' := hu4
            try unfold Proofs.Ytpbobmiajjgekaa.set6 at hu4'
            have hpx := HPP.out
            have HPT := Lib.hid (show Pz W u7 T4 gb bb g most b2 b2 by rw [← hu4]; exact HP6.out.set6 HY6.out.n HW6.out.2 _ _ _ _ _ _)
            have HYT := Lib.hid (show Bz u7 T4 py 32 #[.string xn, .string xt, .int .i64 xc, .int .i64 xe, .int .i64 xu, .bool xh] from ⟨by rw [← hu4]; exact HY6.out.b.set6 _ _ _ _ _ _, HY6.out.n⟩)
            have HXT := Lib.hid (show Bz u7 T4 px 32 #[.string xn, .string xt, .int .i64 xc, .int .i64 xe, .int .i64 xu, .bool xh] from ⟨by rw [← hu4]; exact HX6.out.b.set6Far (by omega) _ _ _ _ _ _, HX6.out.n⟩)
            have HOT := Lib.hid (show Bz u7 T4 p 30 #[.int .i64 ow, .string ot, .string on, .int .i64 oc, .int .i64 oe, .int .i64 oo, .int .i64 ol] from ⟨by rw [← hu4]; exact HO6.out.b.set6Far (by omega) _ _ _ _ _ _, HO6.out.n⟩)
            clear hpx
            try rw [hu4']
            try rw [hu4]
            clear hu4 hu4'
            clear y0 y1 y2 y3 y4 y5 k0 k1 k2 k3 k4 k5
            clear z0 z1 z2 z3 z4 z5 m0 m1 m2 m3 m4 m5
            have d0 : u7.cell? ⟨p, 0, none⟩ = some (.int .i64 ow) := HOT.out.b.cell 0
            have d1 : u7.cell? ⟨p, 1, none⟩ = some (.string ot) := HOT.out.b.cell 1
            have d2 : u7.cell? ⟨p, 2, none⟩ = some (.string on) := HOT.out.b.cell 2
            have d3 : u7.cell? ⟨p, 3, none⟩ = some (.int .i64 oc) := HOT.out.b.cell 3
            have d4 : u7.cell? ⟨p, 4, none⟩ = some (.int .i64 oe) := HOT.out.b.cell 4
            have d5 : u7.cell? ⟨p, 5, none⟩ = some (.int .i64 oo) := HOT.out.b.cell 5
            have d6 : u7.cell? ⟨p, 6, none⟩ = some (.int .i64 ol) := HOT.out.b.cell 6
            obtain ⟨⟨vn, vt, vc, ve, vu, vh⟩, hhv⟩ : ∃ v, (holdL b2 on oo).getD zeroLs = v := ⟨_, rfl⟩
            obtain ⟨hs, hhs⟩ : ∃ v, (holdL b2 on oo).isSome = v := ⟨_, rfl⟩
            have HH1 := Lib.hid hhv
            have HH2 := Lib.hid hhs
            clear hhv hhs
            go_upto_region 43 with (go_at_call 27; (with_reducible refine (p_holder HPT.out on oo HSQ.out.2 _ _ HH1.out HH2.out).mono ?_); rintro e uA ⟨rfl, hb⟩; have HPA := Lib.hid (HPT.out.on hb); have HXA := Lib.hid (HXT.out.on hb); have HYA := Lib.hid (HYT.out.on hb); have HOA := Lib.hid (HOT.out.on hb); clear hb)
            obtain ⟨qh, hq⟩ : ∃ q, uA.heap.size = q := ⟨_, rfl⟩
            obtain ⟨uB, hv⟩ : ∃ v, uA.alloc (.cells #[.string vn, .string vt, .int .i64 vc, .int .i64 ve, .int .i64 vu, .bool vh] 32) = v := ⟨_, rfl⟩
            have HPB := Lib.hid (show Pz W uB T4 gb bb g most b2 b2 by rw [← hv]; exact HPA.out.on ((Below.refl _ _).alloc (Nat.le_refl _) _))
            have HQqh := Lib.hid (show Bz uB T4 qh 32 #[.string vn, .string vt, .int .i64 vc, .int .i64 ve, .int .i64 vu, .bool vh] by rw [← hv, ← hq]; exact Bz.new HPA.out.hi _ _)
            have HZqh := Lib.hid (show uA.heap.size = qh ∧ uA.heap.size ≤ uB.heap.size from ⟨hq, by rw [← hv, World.size_alloc]; omega⟩)
            have HOB := Lib.hid (show Bz uB T4 p 30 #[.int .i64 ow, .string ot, .string on, .int .i64 oc, .int .i64 oe, .int .i64 oo, .int .i64 ol] by rw [← hv]; exact HOA.out.alloc _)
            have HXB := Lib.hid (show Bz uB T4 px 32 #[.string xn, .string xt, .int .i64 xc, .int .i64 xe, .int .i64 xu, .bool xh] by rw [← hv]; exact HXA.out.alloc _)
            have HYB := Lib.hid (show Bz uB T4 py 32 #[.string xn, .string xt, .int .i64 xc, .int .i64 xe, .int .i64 xu, .bool xh] by rw [← hv]; exact HYA.out.alloc _)
            try dsimp only
            rw [hv]
            try rw [hq]
            clear hv hq
            clear d0 d1 d2 d3 d4 d5 d6
            have d0 : uB.cell? ⟨p, 0, none⟩ = some (.int .i64 ow) := HOB.out.b.cell 0
            have d1 : uB.cell? ⟨p, 1, none⟩ = some (.string ot) := HOB.out.b.cell 1
            have d2 : uB.cell? ⟨p, 2, none⟩ = some (.string on) := HOB.out.b.cell 2
            have d3 : uB.cell? ⟨p, 3, none⟩ = some (.int .i64 oc) := HOB.out.b.cell 3
            have d4 : uB.cell? ⟨p, 4, none⟩ = some (.int .i64 oe) := HOB.out.b.cell 4
            have d5 : uB.cell? ⟨p, 5, none⟩ = some (.int .i64 oo) := HOB.out.b.cell 5
            have d6 : uB.cell? ⟨p, 6, none⟩ = some (.int .i64 ol) := HOB.out.b.cell 6
            go_upto_region 44 with (go_at_call 28; (with_reducible refine (r_holder HPB.out HPB.out.ok on oo _ _ HH1.out HH2.out).mono ?_); rintro e uC ⟨rfl, hb⟩; have HPC := Lib.hid (HPB.out.on hb); have HXC := Lib.hid (HXB.out.on hb); have HYC := Lib.hid (HYB.out.on hb); have HHC := Lib.hid (HQqh.out.on hb); clear hb)
            obtain ⟨qi, hq⟩ : ∃ q, uC.heap.size = q := ⟨_, rfl⟩
            obtain ⟨uD, hv⟩ : ∃ v, uC.alloc (.cells #[.string vn, .string vt, .int .i64 vc, .int .i64 ve, .int .i64 vu, .bool vh] 32) = v := ⟨_, rfl⟩
            have HPD := Lib.hid (show Pz W uD T4 gb bb g most b2 b2 by rw [← hv]; exact HPC.out.on ((Below.refl _ _).alloc (Nat.le_refl _) _))
            have HQqi := Lib.hid (show Bz uD T4 qi 32 #[.string vn, .string vt, .int .i64 vc, .int .i64 ve, .int .i64 vu, .bool vh] by rw [← hv, ← hq]; exact Bz.new HPC.out.hi _ _)
            have HZqi := Lib.hid (show uC.heap.size = qi ∧ uC.heap.size ≤ uD.heap.size from ⟨hq, by rw [← hv, World.size_alloc]; omega⟩)
            have HXD := Lib.hid (show Bz uD T4 px 32 #[.string xn, .string xt, .int .i64 xc, .int .i64 xe, .int .i64 xu, .bool xh] by rw [← hv]; exact HXC.out.alloc _)
            have HYD := Lib.hid (show Bz uD T4 py 32 #[.string xn, .string xt, .int .i64 xc, .int .i64 xe, .int .i64 xu, .bool xh] by rw [← hv]; exact HYC.out.alloc _)
            have HHD2 := Lib.hid (show Bz uD T4 qh 32 #[.string vn, .string vt, .int .i64 vc, .int .i64 ve, .int .i64 vu, .bool vh] by rw [← hv]; exact HHC.out.alloc _)
            try dsimp only
            rw [hv]
            try rw [hq]
            clear hv hq
            clear d0 d1 d2 d3 d4 d5 d6
            obtain ⟨Ar, cr, hr1, hr2⟩ := HPD.out.row
            obtain ⟨k, hk⟩ : ∃ k, b2.l.length = k := ⟨_, rfl⟩
            have HK := Lib.hid hk
            have hk64 : k ≤ 64 := by rw [← hk]; exact HPD.out.ok.few
            rw [hk] at hr1
            have HRB := Lib.hid hr1
            have HRR := Lib.hid hr2
            have HSS := Lib.hid (show ∀ u, Below uD.heap.size uD u → Bk u px 32 #[.string xn, .string xt, .int .i64 xc, .int .i64 xe, .int .i64 xu, .bool xh] ∧ Bk u py 32 #[.string xn, .string xt, .int .i64 xc, .int .i64 xe, .int .i64 xu, .bool xh] ∧ Bk u qh 32 #[.string vn, .string vt, .int .i64 vc, .int .i64 ve, .int .i64 vu, .bool vh] ∧ Bk u qi 32 #[.string vn, .string vt, .int .i64 vc, .int .i64 ve, .int .i64 vu, .bool vh] ∧ Bk u bb 46 (bkc Ar k cr g most b2.nx) from fun u hb => ⟨HXD.out.b.below hb HXD.out.b.lt, HYD.out.b.below hb HYD.out.b.lt, HHD2.out.b.below hb HHD2.out.b.lt, HQqi.out.b.below hb HQqi.out.b.lt, HRB.out.below hb HRB.out.lt⟩)
            clear hk hr1 hr2
            try simp only [List.cons_append, List.nil_append]
            refine wp_region_held_drew (S := fun wz => Bk wz px 32 #[.string xn, .string xt, .int .i64 xc, .int .i64 xe, .int .i64 xu, .bool xh] ∧ Bk wz py 32 #[.string xn, .string xt, .int .i64 xc, .int .i64 xe, .int .i64 xu, .bool xh] ∧ Bk wz qh 32 #[.string vn, .string vt, .int .i64 vc, .int .i64 ve, .int .i64 vu, .bool vh] ∧ Bk wz qi 32 #[.string vn, .string vt, .int .i64 vc, .int .i64 ve, .int .i64 vu, .bool vh] ∧ Bk wz bb 46 (bkc Ar k cr g most b2.nx)) (by kernel_rfl) (HSS.out _ (Below.refl _ _).drew) (fun hHeld => ?_)
            refine take_at (some 232) (i := 0) (v := ?_) rfl rfl (by kernel_rfl) (by kernel_rfl) (by kernel_rfl) (fun _ _ _ h => h) (Or.inl ⟨by kernel_rfl, ?_⟩) hHeld ?_
            rotate_left
            · intro wz hSw; have x0 : wz.cell? ⟨px, 0, none⟩ = some (.string xn) := hSw.1.cell 0; have x1 : wz.cell? ⟨px, 1, none⟩ = some (.string xt) := hSw.1.cell 1; have x2 : wz.cell? ⟨px, 2, none⟩ = some (.int .i64 xc) := hSw.1.cell 2; have x3 : wz.cell? ⟨px, 3, none⟩ = some (.int .i64 xe) := hSw.1.cell 3; have x4 : wz.cell? ⟨px, 4, none⟩ = some (.int .i64 xu) := hSw.1.cell 4; have x5 : wz.cell? ⟨px, 5, none⟩ = some (.bool xh) := hSw.1.cell 5; go_simp; try (with_reducible rfl)
            try simp only [Act.put, List.setIfInBounds_toArray, List.set_cons_zero, List.set_cons_succ, List.getElem_toArray, List.getElem_cons_succ, List.getElem_cons_zero]
            refine take_at (some 233) (i := 1) (v := ?_) rfl rfl (by kernel_rfl) (by kernel_rfl) (by kernel_rfl) (fun _ _ _ h => h) (Or.inl ⟨by kernel_rfl, ?_⟩) hHeld ?_
            rotate_left
            · intro wz hSw; have y0 : wz.cell? ⟨py, 0, none⟩ = some (.string xn) := hSw.2.1.cell 0; have y1 : wz.cell? ⟨py, 1, none⟩ = some (.string xt) := hSw.2.1.cell 1; have y2 : wz.cell? ⟨py, 2, none⟩ = some (.int .i64 xc) := hSw.2.1.cell 2; have y3 : wz.cell? ⟨py, 3, none⟩ = some (.int .i64 xe) := hSw.2.1.cell 3; have y4 : wz.cell? ⟨py, 4, none⟩ = some (.int .i64 xu) := hSw.2.1.cell 4; have y5 : wz.cell? ⟨py, 5, none⟩ = some (.bool xh) := hSw.2.1.cell 5; go_simp; try (with_reducible rfl)
            try simp only [Act.put, List.setIfInBounds_toArray, List.set_cons_zero, List.set_cons_succ, List.getElem_toArray, List.getElem_cons_succ, List.getElem_cons_zero]
            refine take_at (some 234) (i := 2) rfl rfl (by kernel_rfl) (by kernel_rfl) (by kernel_rfl) (fun _ _ _ h => h) (yieldsIf_nls (by kernel_rfl) (.tmp 232) (.tmp 233) _ rfl ⟨xn, xt, xc, xe, xu, xh⟩ rfl rfl) hHeld ?_
            try simp only [Act.put, List.setIfInBounds_toArray, List.set_cons_zero, List.set_cons_succ, List.getElem_toArray, List.getElem_cons_succ, List.getElem_cons_zero]
            refine take_at (some 235) (i := 3) (v := ?_) rfl rfl (by kernel_rfl) (by kernel_rfl) (by kernel_rfl) (fun _ _ _ h => h) (Or.inl ⟨by kernel_rfl, ?_⟩) hHeld ?_
            rotate_left
            · intro wz hSw; go_simp; try (with_reducible rfl)
            try simp only [Act.put, List.setIfInBounds_toArray, List.set_cons_zero, List.set_cons_succ, List.getElem_toArray, List.getElem_cons_succ, List.getElem_cons_zero]
            refine take_at (some 236) (i := 4) (v := ?_) rfl rfl (by kernel_rfl) (by kernel_rfl) (by kernel_rfl) (fun _ _ _ h => h) (Or.inl ⟨by kernel_rfl, ?_⟩) hHeld ?_
            rotate_left
            · intro wz hSw; go_simp; try (with_reducible rfl)
            try simp only [Act.put, List.setIfInBounds_toArray, List.set_cons_zero, List.set_cons_succ, List.getElem_toArray, List.getElem_cons_succ, List.getElem_cons_zero]
            refine take_at (some 237) (i := 5) (v := ?_) rfl rfl (by kernel_rfl) (by kernel_rfl) (by kernel_rfl) (fun _ _ _ h => h) (Or.inl ⟨by kernel_rfl, ?_⟩) hHeld ?_
            rotate_left
            · intro wz hSw; go_simp; try (with_reducible rfl)
            try simp only [Act.put, List.setIfInBounds_toArray, List.set_cons_zero, List.set_cons_succ, List.getElem_toArray, List.getElem_cons_succ, List.getElem_cons_zero]
            refine take_at (some 238) (i := 6) (v := ?_) rfl rfl (by kernel_rfl) (by kernel_rfl) (by kernel_rfl) (fun _ _ _ h => h) (Or.inl ⟨by kernel_rfl, ?_⟩) hHeld ?_
            rotate_left
            · intro wz hSw; go_simp; try (with_reducible rfl)
            try simp only [Act.put, List.setIfInBounds_toArray, List.set_cons_zero, List.set_cons_succ, List.getElem_toArray, List.getElem_cons_succ, List.getElem_cons_zero]
            refine take_at (some 239) (i := 7) (v := ?_) rfl rfl (by kernel_rfl) (by kernel_rfl) (by kernel_rfl) (fun _ _ _ h => h) (Or.inl ⟨by kernel_rfl, ?_⟩) hHeld ?_
            rotate_left
            · intro wz hSw; go_simp; try (with_reducible rfl)
            try simp only [Act.put, List.setIfInBounds_toArray, List.set_cons_zero, List.set_cons_succ, List.getElem_toArray, List.getElem_cons_succ, List.getElem_cons_zero]
            refine take_at (some 240) (i := 8) (v := ?_) rfl rfl (by kernel_rfl) (by kernel_rfl) (by kernel_rfl) (fun _ _ _ h => h) (Or.inl ⟨by kernel_rfl, ?_⟩) hHeld ?_
            rotate_left
            · intro wz hSw; go_simp; try (with_reducible rfl)
            try simp only [Act.put, List.setIfInBounds_toArray, List.set_cons_zero, List.set_cons_succ, List.getElem_toArray, List.getElem_cons_succ, List.getElem_cons_zero]
            refine take_at (some 241) (i := 9) (v := ?_) rfl rfl (by kernel_rfl) (by kernel_rfl) (by kernel_rfl) (fun _ _ _ h => h) (Or.inl ⟨by kernel_rfl, ?_⟩) hHeld ?_
            rotate_left
            · intro wz hSw; have h0 : wz.cell? ⟨qh, 0, none⟩ = some (.string vn) := hSw.2.2.1.cell 0; have h1 : wz.cell? ⟨qh, 1, none⟩ = some (.string vt) := hSw.2.2.1.cell 1; have h2 : wz.cell? ⟨qh, 2, none⟩ = some (.int .i64 vc) := hSw.2.2.1.cell 2; have h3 : wz.cell? ⟨qh, 3, none⟩ = some (.int .i64 ve) := hSw.2.2.1.cell 3; have h4 : wz.cell? ⟨qh, 4, none⟩ = some (.int .i64 vu) := hSw.2.2.1.cell 4; have h5 : wz.cell? ⟨qh, 5, none⟩ = some (.bool vh) := hSw.2.2.1.cell 5; go_simp; try (with_reducible rfl)
            try simp only [Act.put, List.setIfInBounds_toArray, List.set_cons_zero, List.set_cons_succ, List.getElem_toArray, List.getElem_cons_succ, List.getElem_cons_zero]
            refine take_at (some 242) (i := 10) (v := ?_) rfl rfl (by kernel_rfl) (by kernel_rfl) (by kernel_rfl) (fun _ _ _ h => h) (Or.inl ⟨by kernel_rfl, ?_⟩) hHeld ?_
            rotate_left
            · intro wz hSw; have h0 : wz.cell? ⟨qi, 0, none⟩ = some (.string vn) := hSw.2.2.2.1.cell 0; have h1 : wz.cell? ⟨qi, 1, none⟩ = some (.string vt) := hSw.2.2.2.1.cell 1; have h2 : wz.cell? ⟨qi, 2, none⟩ = some (.int .i64 vc) := hSw.2.2.2.1.cell 2; have h3 : wz.cell? ⟨qi, 3, none⟩ = some (.int .i64 ve) := hSw.2.2.2.1.cell 3; have h4 : wz.cell? ⟨qi, 4, none⟩ = some (.int .i64 vu) := hSw.2.2.2.1.cell 4; have h5 : wz.cell? ⟨qi, 5, none⟩ = some (.bool vh) := hSw.2.2.2.1.cell 5; go_simp; try (with_reducible rfl)
            try simp only [Act.put, List.setIfInBounds_toArray, List.set_cons_zero, List.set_cons_succ, List.getElem_toArray, List.getElem_cons_succ, List.getElem_cons_zero]
            refine take_at (some 243) (i := 11) rfl rfl (by kernel_rfl) (by kernel_rfl) (by kernel_rfl) (fun _ _ _ h => h) (yieldsIf_nls (by kernel_rfl) (.tmp 241) (.tmp 242) _ rfl ⟨vn, vt, vc, ve, vu, vh⟩ rfl rfl) hHeld ?_
            try simp only [Act.put, List.setIfInBounds_toArray, List.set_cons_zero, List.set_cons_succ, List.getElem_toArray, List.getElem_cons_succ, List.getElem_cons_zero]
            refine take_at (some 244) (i := 12) (v := ?_) rfl rfl (by kernel_rfl) (by kernel_rfl) (by kernel_rfl) (fun _ _ _ h => h) (Or.inl ⟨by kernel_rfl, ?_⟩) hHeld ?_
            rotate_left
            · intro wz hSw; go_simp; try (with_reducible rfl)
            try simp only [Act.put, List.setIfInBounds_toArray, List.set_cons_zero, List.set_cons_succ, List.getElem_toArray, List.getElem_cons_succ, List.getElem_cons_zero]
            refine take_at (some 245) (i := 13) (v := ?_) rfl rfl (by kernel_rfl) (by kernel_rfl) (by kernel_rfl) (fun _ _ _ h => h) (Or.inl ⟨by kernel_rfl, ?_⟩) hHeld ?_
            rotate_left
            · intro wz hSw; go_simp; try (with_reducible rfl)
            try simp only [Act.put, List.setIfInBounds_toArray, List.set_cons_zero, List.set_cons_succ, List.getElem_toArray, List.getElem_cons_succ, List.getElem_cons_zero]
            refine take_at (some 246) (i := 14) (v := ?_) rfl rfl (by kernel_rfl) (by kernel_rfl) (by kernel_rfl) (fun _ _ _ h => h) (Or.inl ⟨by kernel_rfl, ?_⟩) hHeld ?_
            rotate_left
            · intro wz hSw; go_simp; try (with_reducible rfl)
            try simp only [Act.put, List.setIfInBounds_toArray, List.set_cons_zero, List.set_cons_succ, List.getElem_toArray, List.getElem_cons_succ, List.getElem_cons_zero]
            refine take_at (some 247) (i := 15) (v := ?_) rfl rfl (by kernel_rfl) (by kernel_rfl) (by kernel_rfl) (fun _ _ _ h => h) (Or.inl ⟨by kernel_rfl, ?_⟩) hHeld ?_
            rotate_left
            · intro wz hSw; go_simp; try (with_reducible rfl)
            try simp only [Act.put, List.setIfInBounds_toArray, List.set_cons_zero, List.set_cons_succ, List.getElem_toArray, List.getElem_cons_succ, List.getElem_cons_zero]
            refine take_at (some 248) (i := 16) (v := ?_) rfl rfl (by kernel_rfl) (by kernel_rfl) (by kernel_rfl) (fun _ _ _ h => h) (Or.inl ⟨by kernel_rfl, ?_⟩) hHeld ?_
            rotate_left
            · intro wz hSw; go_simp; try (with_reducible rfl)
            try simp only [Act.put, List.setIfInBounds_toArray, List.set_cons_zero, List.set_cons_succ, List.getElem_toArray, List.getElem_cons_succ, List.getElem_cons_zero]
            refine take_at (some 249) (i := 17) (v := ?_) rfl rfl (by kernel_rfl) (by kernel_rfl) (by kernel_rfl) (fun _ _ _ h => h) (Or.inl ⟨by kernel_rfl, ?_⟩) hHeld ?_
            rotate_left
            · intro wz hSw; go_simp; try (with_reducible rfl)
            try simp only [Act.put, List.setIfInBounds_toArray, List.set_cons_zero, List.set_cons_succ, List.getElem_toArray, List.getElem_cons_succ, List.getElem_cons_zero]
            refine take_at (some 250) (i := 18) (v := ?_) rfl rfl (by kernel_rfl) (by kernel_rfl) (by kernel_rfl) (fun _ _ _ h => h) (Or.inl ⟨by kernel_rfl, ?_⟩) hHeld ?_
            rotate_left
            · intro wz hSw; go_simp; try (with_reducible rfl)
            try simp only [Act.put, List.setIfInBounds_toArray, List.set_cons_zero, List.set_cons_succ, List.getElem_toArray, List.getElem_cons_succ, List.getElem_cons_zero]
            refine take_at (some 251) (i := 19) (v := ?_) rfl rfl (by kernel_rfl) (by kernel_rfl) (by kernel_rfl) (fun _ _ _ h => h) (Or.inl ⟨by kernel_rfl, ?_⟩) hHeld ?_
            rotate_left
            · intro wz hSw; go_simp; try (with_reducible rfl)
            try simp only [Act.put, List.setIfInBounds_toArray, List.set_cons_zero, List.set_cons_succ, List.getElem_toArray, List.getElem_cons_succ, List.getElem_cons_zero]
            refine take_at (some 253) (i := 21) (v := ?_) rfl rfl (by kernel_rfl) (by kernel_rfl) (by kernel_rfl) (fun _ _ _ h => h) (Or.inl ⟨by kernel_rfl, ?_⟩) hHeld ?_
            rotate_left
            · intro wz hSw; go_simp; try (with_reducible rfl)
            try simp only [Act.put, List.setIfInBounds_toArray, List.set_cons_zero, List.set_cons_succ, List.getElem_toArray, List.getElem_cons_succ, List.getElem_cons_zero]
            refine take_at (some 254) (i := 22) (v := ?_) rfl rfl (by kernel_rfl) (by kernel_rfl) (by kernel_rfl) (fun _ _ _ h => h) (Or.inl ⟨by kernel_rfl, ?_⟩) hHeld ?_
            rotate_left
            · intro wz hSw; have e0 : wz.cell? ⟨bb, 0, none⟩ = some (.slice Ar k cr) := hSw.2.2.2.2.cell 0; go_simp; try (with_reducible rfl)
            try simp only [Act.put, List.setIfInBounds_toArray, List.set_cons_zero, List.set_cons_succ, List.getElem_toArray, List.getElem_cons_succ, List.getElem_cons_zero]
            refine take_at (some 255) (i := 23) (v := ?_) rfl rfl (by kernel_rfl) (by kernel_rfl) (by kernel_rfl) (fun _ _ _ h => h) (Or.inl ⟨by kernel_rfl, ?_⟩) hHeld ?_
            rotate_left
            · intro wz hSw; have e0 : wz.cell? ⟨bb, 0, none⟩ = some (.slice Ar k cr) := hSw.2.2.2.2.cell 0; go_simp; try (with_reducible rfl)
            try simp only [Act.put, List.setIfInBounds_toArray, List.set_cons_zero, List.set_cons_succ, List.getElem_toArray, List.getElem_cons_succ, List.getElem_cons_zero]
            refine take_at (some 256) (i := 24) (v := ?_) rfl rfl (by kernel_rfl) (by kernel_rfl) (by kernel_rfl) (fun _ _ _ h => h) (Or.inl ⟨by kernel_rfl, ?_⟩) hHeld ?_
            rotate_left
            · intro wz hSw; have e0 : wz.cell? ⟨bb, 0, none⟩ = some (.slice Ar k cr) := hSw.2.2.2.2.cell 0; go_simp; try (with_reducible rfl)
            try simp only [Act.put, List.setIfInBounds_toArray, List.set_cons_zero, List.set_cons_succ, List.getElem_toArray, List.getElem_cons_succ, List.getElem_cons_zero]
            refine wpAnyH_ready (rs := [20]) (by kernel_rfl) (by simp) (AllReadyH.cons rfl (fun K hK => ?_) AllReadyH.nil)
            rw [if_pos (by kernel_rfl)]
            go_simp
            refine (p_all (HPD.out.on (Below.refl _ _).drew) k HK.out).mono ?_
            rintro e y1 ⟨Aa, ca, rfl, ha, hb1⟩
            try dsimp only
            refine hK.out _ _ (HSS.out y1 ((Below.refl uD.heap.size uD).drew.trans hb1)) (fun hHeld => ?_)
            try simp only [Act.put, List.setIfInBounds_toArray, List.set_cons_zero, List.set_cons_succ, List.getElem_toArray, List.getElem_cons_succ, List.getElem_cons_zero]
            refine wpAnyH_ready (rs := [25]) (by kernel_rfl) (by simp) (AllReadyH.cons rfl (fun K hK => ?_) AllReadyH.nil)
            rw [if_pos (by kernel_rfl)]
            go_simp
            refine (rsame_yes Aa Ar ca cr b2.l y1 k HK.out ha (HRR.out.on ((Below.refl uD.heap.size uD).drew.trans hb1)) (by omega)).mono ?_
            rintro e y2 ⟨rfl, hb2⟩
            try dsimp only
            refine hK.out _ _ (HSS.out y2 (((Below.refl uD.heap.size uD).drew.trans hb1).trans (hb2.mono hb1.size))) (fun hHeld => ?_)
            try simp only [Act.put, List.setIfInBounds_toArray, List.set_cons_zero, List.set_cons_succ, List.getElem_toArray, List.getElem_cons_succ, List.getElem_cons_zero]
            refine take_at (some 258) (i := 26) (v := ?_) rfl rfl (by kernel_rfl) (by kernel_rfl) (by kernel_rfl) (fun _ _ _ h => h) (Or.inl ⟨by kernel_rfl, ?_⟩) hHeld ?_
            rotate_left
            · intro wz hSw; go_simp; try (with_reducible rfl)
            try simp only [Act.put, List.setIfInBounds_toArray, List.set_cons_zero, List.set_cons_succ, List.getElem_toArray, List.getElem_cons_succ, List.getElem_cons_zero]
            refine take_at (some 259) (i := 27) (v := ?_) rfl rfl (by kernel_rfl) (by kernel_rfl) (by kernel_rfl) (fun _ _ _ h => h) (Or.inl ⟨by kernel_rfl, ?_⟩) hHeld ?_
            rotate_left
            · intro wz hSw; go_simp; try (with_reducible rfl)
            try simp only [Act.put, List.setIfInBounds_toArray, List.set_cons_zero, List.set_cons_succ, List.getElem_toArray, List.getElem_cons_succ, List.getElem_cons_zero]
            refine wpAnyH_done (by kernel_rfl) ?_ _
            refine gen_q13 (fun y => Pz W y T4 gb bb g most b2 b2) (HPD.out.on (((Below.refl uD.heap.size uD).drew.trans hb1).trans (hb2.mono hb1.size))) (fun y hy => ?_)
            have HPY := Lib.hid hy
            clear hy hHeld
            go_wp2
            go_roundw
            case rel => exact ⟨i + 1, T4, b2, by omega, by go_num, HPY, HNN⟩
            case measure => simp [intOf]; omega
        · have hi2 : ¬ (i : Int) < (n : Int) := by omega
          go_wp2_with fail
          go_ret
          exact ⟨by first | rfl | simp, HP.out.l⟩
end Go.Proofs.Ytpbobmiajjgekaa
