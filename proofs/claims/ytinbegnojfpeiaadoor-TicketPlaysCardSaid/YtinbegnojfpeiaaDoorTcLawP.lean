/- TicketPlays: calls of a book answer as the document says: the walk. (Written by gen_tcplays.py.) -/
import Derived.Test.YtinbegnojfpeiaaDoorG20
namespace Go.Proofs.YtinbegnojfpeiaaDoor
set_option linter.unusedVariables false
set_option maxRecDepth 100000
set_option linter.unusedSimpArgs false
open Go.RowKit

set_option maxRecDepth 100000 in
set_option maxHeartbeats 32000000 in
theorem walk_TicketPlays (key : ByteArray) (A : Option Addr) (l : List To) (c : Nat) (W : World) (hk : key.size ≤ 140737488355328) (h : InTk W A l c) (hG : Gl W) :
    Calls Tryd.prog 3 #[.string key, .slice A l.length c] W fun e w' => e = .returned (.bool true) ∧ Below W.heap.size W w' := by
  have HG := Lib.hid hG
  have HI := Lib.hid h
  have HGR := Lib.hid (fun u (hb : Below W.heap.size W u) => tgreat_ok A l c u (h.on hb))
  obtain ⟨gr, hgr⟩ : ∃ gr, grT l = gr := ⟨_, rfl⟩
  have HGB := Lib.hid hgr
  simp only [hgr] at HGR
  obtain ⟨n, hn⟩ : ∃ n, l.length = n := ⟨_, rfl⟩
  have HN := Lib.hid hn
  rw [hn] at HGR ⊢
  have HKZ := Lib.hid hk
  clear hG h hgr hn hk
  go_enter Tryd.func3, Tryd.ntmps3
  go_upto_region 2 with (go_at_call 9; (with_reducible refine (thead_ok _ HG.out).mono ?_); rintro e u1 ⟨rfl, hb⟩; have HB1 := Lib.hid hb; clear hb)
  go_upto_region 3 with (go_at_call 10; (with_reducible refine (z_new HB1.out key HKZ.out).mono ?_); rintro e u2 ⟨H2, tb, rfl, h1, h2, h3⟩; have HZ2 := Lib.hid h1; clear h1 h2 h3)
  go_upto_region 4 with (go_at_call 11; (with_reducible refine (t_new HZ2.out.l key).mono ?_); rintro e u3 ⟨H3, db, rfl, h1, h2, h3⟩; have HW3 := Lib.hid (show Wd W u3 key H2 tb ⟨0, []⟩ H3 db ⟨0, []⟩ from ⟨HZ2.out.on h2, h1, fun y hy hH => by have := HZ2.out.hi y hy; have := h3 y hH; omega⟩); clear h1 h2 h3)
  cases gr with
  | true =>
    go_wp2_with (go_at_call 12; (with_reducible refine (HGR.out _ HW3.out.z.l).mono ?_); rintro e u4 ⟨rfl, hb⟩; have HW4 := Lib.hid (HW3.out.on hb); clear hb)
    go_ret
    exact ⟨rfl, HW4.out.z.l⟩
  | false =>
  by_cases hgt : key.size > 3000
  · have hg2 : (key.size : Int) > 3000 := by omega
    have hg3 : decide ((3000 : Int) < (key.size : Int)) = true := decide_eq_true (by omega)
    go_wp2_with (go_at_call 12; (with_reducible refine (HGR.out _ HW3.out.z.l).mono ?_); rintro e u4 ⟨rfl, hb⟩; have HW4 := Lib.hid (HW3.out.on hb); clear hb)
    go_ret
    exact ⟨rfl, HW4.out.z.l⟩
  · have hg2 : ¬ (key.size : Int) > 3000 := by omega
    have hg3 : decide ((3000 : Int) < (key.size : Int)) = false := decide_eq_false (by omega)
    have HK3 := Lib.hid (show key.size ≤ 3000 by omega)
    have hfew : n ≤ 200 := by rw [← HN.out]; exact grT_few HGB.out
    have HSMA := Lib.hid (grT_small HGB.out)
    clear hgt
    go_wp2_with (go_at_call 12; (with_reducible refine (HGR.out _ HW3.out.z.l).mono ?_); rintro e u4 ⟨rfl, hb⟩; have HW4 := Lib.hid (HW3.out.on hb); clear hb)
    go_loopw [8, 9] (fun v8 v9 wr => ∃ (i m : Nat) (b : Bt) (L : List ByteArray) (H : List Nat) (G : List Nat) (A1 : Option Addr) (c1 : Nat), i ≤ n ∧ v8 = .slice A1 m c1 ∧ v9 = .int .i64 (i : Int) ∧ Hid (Wd W wr key H tb b G db b) ∧ Hid (Lrk 9 1 tsv W wr (H ++ G) A1 c1 L) ∧ Hid (L.length = m ∧ m ≤ i ∧ b.se ≤ (i : Int) ∧ Gk b ∧ ∀ s ∈ L, s.size ≤ 1099511627776)) (fun v8 v9 _ => n - (intOf v9).toNat)
    case atStart => exact ⟨0, 0, ⟨0, []⟩, [], H2, H3, none, 0, by omega, rfl, rfl, HW4, Lib.hid (Lrk.nil _ _ _), Lib.hid ⟨rfl, Nat.le_refl _, by show (0 : Int) ≤ _; omega, gk_nil, fun e he => (by cases he)⟩⟩
    case round =>
      obtain ⟨i, m, b, L, H, G, A1, c1, hi, rfl, rfl, HW, HX, HE⟩ := hrel
      by_cases hi1 : i < n
      · have hi2 : (i : Int) < (n : Int) := by omega
        have HMI := Lib.hid (show m ≤ 200 by have := HE.out.2.1; omega)
        obtain ⟨bx, o, op, rfl, hx, hsm, hc⟩ := HI.out.at9 i (by rw [HN.out]; exact hi1)
        have HOS := Lib.hid (HSMA.out op (List.mem_of_getElem? hx))
        obtain ⟨x0, x1, x2, x3, x4, x5, x6, x7, x8⟩ := hc wr HW.out.z.l
        have HOZ := Lib.hid hsm
        obtain ⟨ow, ⟨ov, on, ot, oe⟩, od, oa, ox, og⟩ := op
        dsimp only at x0 x1 x2 x3 x4 x5 x6 x7 x8
        have HOD := Lib.hid (show od.size ≤ 3000 ∧ ox.size ≤ 3000 from by have h1 := HOS.out; unfold szT at h1; dsimp only at h1; omega)
        have HON := Lib.hid (show on.size ≤ 140737488355328 ∧ ot.size ≤ 140737488355328 from ⟨HOZ.out.1, HOZ.out.2.1⟩)
        clear hx hc hsm HOS HOZ
        go_upto_region 11 with fail
        obtain ⟨kb, hkb⟩ : ∃ kb, wr.heap.size = kb := ⟨_, rfl⟩
        obtain ⟨v, hv⟩ : ∃ v, wr.alloc (.cells #[.int .i64 ow, .int .i64 ov, .string on, .string ot, .int .i64 oe, .string od, .int .i64 oa, .string ox, .string og] 33) = v := ⟨_, rfl⟩
        have hbv : Below wr.heap.size wr v := by rw [← hv]; exact (Below.refl _ _).alloc (Nat.le_refl _) _
        have HB := Lib.hid (show Bz v (H ++ G) kb 33 #[.int .i64 ow, .int .i64 ov, .string on, .string ot, .int .i64 oe, .string od, .int .i64 oa, .string ox, .string og] by rw [← hv, ← hkb]; exact Bz.new HW.out.hi _ _)
        have HWv := Lib.hid (HW.out.on hbv)
        have HXv := Lib.hid (HX.out.on hbv)
        try rw [hv]
        try rw [hkb]
        clear hv hkb hbv x0 x1 x2 x3 x4 x5 x6 x7 x8
        have e0 : v.cell? ⟨kb, 0, none⟩ = some (.int .i64 ow) := HB.out.b.cell 0
        have e1 : v.cell? ⟨kb, 1, none⟩ = some (.int .i64 ov) := HB.out.b.cell 1
        have e2 : v.cell? ⟨kb, 2, none⟩ = some (.string on) := HB.out.b.cell 2
        have e3 : v.cell? ⟨kb, 3, none⟩ = some (.string ot) := HB.out.b.cell 3
        have e4 : v.cell? ⟨kb, 4, none⟩ = some (.int .i64 oe) := HB.out.b.cell 4
        have e5 : v.cell? ⟨kb, 5, none⟩ = some (.string od) := HB.out.b.cell 5
        have e6 : v.cell? ⟨kb, 6, none⟩ = some (.int .i64 oa) := HB.out.b.cell 6
        have e7 : v.cell? ⟨kb, 7, none⟩ = some (.string ox) := HB.out.b.cell 7
        have e8 : v.cell? ⟨kb, 8, none⟩ = some (.string og) := HB.out.b.cell 8
        by_cases h2 : ow = 2
        · subst h2
          obtain ⟨S, hS⟩ : ∃ S, shS (⟨2, ⟨ov, on, ot, oe⟩, od, oa, ox, og⟩ : To) L = S := ⟨_, rfl⟩
          have HSZ := Lib.hid (show S.size ≤ 1099511627776 from by
            rw [← hS]
            unfold shS
            split
            · rename_i hh
              dsimp only at hh
              rw [List.getD_eq_getElem?_getD]
              cases hq : L[oa.toNat]? with
              | none => exact Nat.zero_le _
              | some y => exact HE.out.2.2.2.2 y (List.mem_of_getElem? hq)
            · exact Nat.le_trans HOD.out.2 (by decide))
          have HSS := Lib.hid hS
          clear hS
          obtain ⟨⟨⟨pv, pn, pt, pe⟩, er, b2⟩, hR⟩ : ∃ R, redT b S og = R := ⟨_, rfl⟩
          have HR := Lib.hid hR
          have HG2 := Lib.hid (show Gk b2 by have := gk_red HE.out.2.2.2.1 S og; rw [hR] at this; exact this)
          have HSE := Lib.hid (show b2.se = b.se by
            have h1 := congrArg (fun r => r.2.2.se) hR
            dsimp only at h1
            rw [← h1]
            rcases red_cases b S og with ⟨_, h2⟩ | ⟨_, _, _, h2⟩ | ⟨_, _, _, h2⟩ <;> rw [h2])
          clear hR
          go_upto_region 19 with fail
          clear e0 e1 e2 e3 e4 e5 e6 e7 e8
          try simp only [List.cons_append, List.nil_append]
          refine wp_region_held_drew (S := fun wz => Bk wz kb 33 #[.int .i64 2, .int .i64 ov, .string on, .string ot, .int .i64 oe, .string od, .int .i64 oa, .string ox, .string og]) (by kernel_rfl) (HB.out.b.below (show Below v.heap.size v v.drew from (Below.refl _ _).drew) HB.out.b.lt) (fun hHeld => ?_)
          refine take_at (some 89) (i := 0) (v := ?_) rfl rfl (by kernel_rfl) (by kernel_rfl) (by kernel_rfl) (fun _ _ _ h => h) (Or.inl ⟨by kernel_rfl, ?_⟩) hHeld ?_
          rotate_left
          · intro wz hSw; go_simp; try (with_reducible rfl)
          try simp only [Act.put, List.setIfInBounds_toArray, List.set_cons_zero, List.set_cons_succ, List.getElem_toArray, List.getElem_cons_succ, List.getElem_cons_zero]
          refine take_at (some 90) (i := 1) (v := ?_) rfl rfl (by kernel_rfl) (by kernel_rfl) (by kernel_rfl) (fun _ _ _ h => h) (Or.inl ⟨by kernel_rfl, ?_⟩) hHeld ?_
          rotate_left
          · intro wz hSw; have q0 : wz.cell? ⟨kb, 0, none⟩ = some (.int .i64 2) := hSw.cell 0; have q1 : wz.cell? ⟨kb, 1, none⟩ = some (.int .i64 ov) := hSw.cell 1; have q2 : wz.cell? ⟨kb, 2, none⟩ = some (.string on) := hSw.cell 2; have q3 : wz.cell? ⟨kb, 3, none⟩ = some (.string ot) := hSw.cell 3; have q4 : wz.cell? ⟨kb, 4, none⟩ = some (.int .i64 oe) := hSw.cell 4; have q5 : wz.cell? ⟨kb, 5, none⟩ = some (.string od) := hSw.cell 5; have q6 : wz.cell? ⟨kb, 6, none⟩ = some (.int .i64 oa) := hSw.cell 6; have q7 : wz.cell? ⟨kb, 7, none⟩ = some (.string ox) := hSw.cell 7; have q8 : wz.cell? ⟨kb, 8, none⟩ = some (.string og) := hSw.cell 8; go_simp; try (with_reducible rfl)
          try simp only [Act.put, List.setIfInBounds_toArray, List.set_cons_zero, List.set_cons_succ, List.getElem_toArray, List.getElem_cons_succ, List.getElem_cons_zero]
          refine take_at (some 91) (i := 2) (v := ?_) rfl rfl (by kernel_rfl) (by kernel_rfl) (by kernel_rfl) (fun _ _ _ h => h) (Or.inl ⟨by kernel_rfl, ?_⟩) hHeld ?_
          rotate_left
          · intro wz hSw; go_simp; try (with_reducible rfl)
          try simp only [Act.put, List.setIfInBounds_toArray, List.set_cons_zero, List.set_cons_succ, List.getElem_toArray, List.getElem_cons_succ, List.getElem_cons_zero]
          refine take_at (some 93) (i := 4) (v := ?_) rfl rfl (by kernel_rfl) (by kernel_rfl) (by kernel_rfl) (fun _ _ _ h => h) (Or.inl ⟨by kernel_rfl, ?_⟩) hHeld ?_
          rotate_left
          · intro wz hSw; go_simp; try (with_reducible rfl)
          try simp only [Act.put, List.setIfInBounds_toArray, List.set_cons_zero, List.set_cons_succ, List.getElem_toArray, List.getElem_cons_succ, List.getElem_cons_zero]
          refine take_at (some 94) (i := 5) (v := ?_) rfl rfl (by kernel_rfl) (by kernel_rfl) (by kernel_rfl) (fun _ _ _ h => h) (Or.inl ⟨by kernel_rfl, ?_⟩) hHeld ?_
          rotate_left
          · intro wz hSw; have q0 : wz.cell? ⟨kb, 0, none⟩ = some (.int .i64 2) := hSw.cell 0; have q1 : wz.cell? ⟨kb, 1, none⟩ = some (.int .i64 ov) := hSw.cell 1; have q2 : wz.cell? ⟨kb, 2, none⟩ = some (.string on) := hSw.cell 2; have q3 : wz.cell? ⟨kb, 3, none⟩ = some (.string ot) := hSw.cell 3; have q4 : wz.cell? ⟨kb, 4, none⟩ = some (.int .i64 oe) := hSw.cell 4; have q5 : wz.cell? ⟨kb, 5, none⟩ = some (.string od) := hSw.cell 5; have q6 : wz.cell? ⟨kb, 6, none⟩ = some (.int .i64 oa) := hSw.cell 6; have q7 : wz.cell? ⟨kb, 7, none⟩ = some (.string ox) := hSw.cell 7; have q8 : wz.cell? ⟨kb, 8, none⟩ = some (.string og) := hSw.cell 8; go_simp; try (with_reducible rfl)
          try simp only [Act.put, List.setIfInBounds_toArray, List.set_cons_zero, List.set_cons_succ, List.getElem_toArray, List.getElem_cons_succ, List.getElem_cons_zero]
          obtain ⟨w0, hwd⟩ : ∃ wq, v.drew = wq := ⟨_, rfl⟩
          have hb0 : Below v.heap.size v w0 := by rw [← hwd]; exact (Below.refl _ _).drew
          have hw0 := HWv.out.on hb0
          have hl0 := HXv.out.on hb0
          have hk0 := HB.out.on hb0
          try rw [hwd]
          clear hwd hb0
          refine wpAnyH_ready (rs := [3, 10]) (by kernel_rfl) (by simp) (AllReadyH.cons rfl (fun K hK => ?_) (AllReadyH.cons rfl (fun K hK => ?_) (AllReadyH.nil)))
          · rw [if_pos (by kernel_rfl)]
            go_simp
            refine (show Calls Tryd.prog 14 #[.agg #[.int .i64 2, .int .i64 ov, .string on, .string ot, .int .i64 oe, .string od, .int .i64 oa, .string ox, .string og], .slice A1 m c1] w0 _ from tshown_ok ⟨2, ⟨ov, on, ot, oe⟩, od, oa, ox, og⟩ A1 L m c1 w0 (Ow.rw_ (fun _ => rfl) hl0.o) HE.out.1 S HSS.out).mono ?_
            rintro e w1 ⟨rfl, hb⟩
            try dsimp only
            have hw1 := hw0.on hb
            have hl1 := hl0.on hb
            have hk1 := hk0.on hb
            clear hb
            refine hK.out _ _ hk1.b (fun hHeld => ?_)
            try simp only [Act.put, List.setIfInBounds_toArray, List.set_cons_zero, List.set_cons_succ, List.getElem_toArray, List.getElem_cons_succ, List.getElem_cons_zero]
            refine wpAnyH_ready (rs := [6, 10]) (by kernel_rfl) (by simp) (AllReadyH.cons rfl (fun K hK => ?_) (AllReadyH.cons rfl (fun K hK => ?_) (AllReadyH.nil)))
            · rw [if_pos (by kernel_rfl)]
              go_simp
              refine (z_redeem hw1.z HE.out.2.2.2.1 S og ⟨pv, pn, pt, pe⟩ er b2 HR.out HSZ.out).mono ?_
              rintro e w2 ⟨H5, rfl, h1, h2⟩
              try dsimp only
              have hw2 := hw1.left h2 h1
              have hl2 := hl1.step (h2.left G)
              have hk2 := hk1.step (h2.left G)
              clear h1 h2
              refine hK.out _ _ hk2.b (fun hHeld => ?_)
              try simp only [Act.put, List.setIfInBounds_toArray, List.set_cons_zero, List.set_cons_succ, List.getElem_toArray, List.getElem_cons_succ, List.getElem_cons_zero]
              refine take_at (some 88) (i := 7) (v := ?_) rfl rfl (by kernel_rfl) (by kernel_rfl) (by kernel_rfl) (fun _ _ _ h => h) (Or.inl ⟨by kernel_rfl, ?_⟩) hHeld ?_
              rotate_left
              · intro wz hSw; go_simp; try (with_reducible rfl)
              try simp only [Act.put, List.setIfInBounds_toArray, List.set_cons_zero, List.set_cons_succ, List.getElem_toArray, List.getElem_cons_succ, List.getElem_cons_zero]
              refine take_at (some 96) (i := 8) (v := ?_) rfl rfl (by kernel_rfl) (by kernel_rfl) (by kernel_rfl) (fun _ _ _ h => h) (Or.inl ⟨by kernel_rfl, ?_⟩) hHeld ?_
              rotate_left
              · intro wz hSw; go_simp; try (with_reducible rfl)
              try simp only [Act.put, List.setIfInBounds_toArray, List.set_cons_zero, List.set_cons_succ, List.getElem_toArray, List.getElem_cons_succ, List.getElem_cons_zero]
              refine take_at (some 97) (i := 9) (v := ?_) rfl rfl (by kernel_rfl) (by kernel_rfl) (by kernel_rfl) (fun _ _ _ h => h) (Or.inl ⟨by kernel_rfl, ?_⟩) hHeld ?_
              rotate_left
              · intro wz hSw; go_simp; try (with_reducible rfl)
              try simp only [Act.put, List.setIfInBounds_toArray, List.set_cons_zero, List.set_cons_succ, List.getElem_toArray, List.getElem_cons_succ, List.getElem_cons_zero]
              refine wpAnyH_ready (rs := [10]) (by kernel_rfl) (by simp) (AllReadyH.cons rfl (fun K hK => ?_) (AllReadyH.nil))
              · rw [if_pos (by kernel_rfl)]
                go_simp
                try dsimp only
                obtain ⟨w3, hw5⟩ : ∃ wq, w2.alloc (.cells #[.int .i64 0, .string ⟨#[]⟩, .string ⟨#[]⟩, .int .i64 0] 31) = wq := ⟨_, rfl⟩
                obtain ⟨gx, hgw⟩ : ∃ gq, w2.heap.size = gq := ⟨_, rfl⟩
                have hg3 : Bz w3 (H5 ++ G) gx 31 (pcs zeroPs) := by rw [← hw5, ← hgw]; exact Bz.new hw2.hi _ _
                have hgW : W.heap.size ≤ gx := by rw [← hgw]; exact hw2.z.l.size
                have hbel : Below w2.heap.size w2 w3 := by rw [← hw5]; exact (Below.refl _ _).alloc (Nat.le_refl _) _
                have hw3 := hw2.on hbel
                have hl3 := hl2.on hbel
                have hk3 := hk2.on hbel
                try rw [hw5]
                try rw [hgw]
                clear hw5 hgw hbel
                refine hK.out _ _ hk3.b (fun hHeld => ?_)
                try simp only [Act.put, List.setIfInBounds_toArray, List.set_cons_zero, List.set_cons_succ, List.getElem_toArray, List.getElem_cons_succ, List.getElem_cons_zero]
                have z0 : w3.cell? ⟨gx, 0, none⟩ = some (.int .i64 0) := hg3.b.cell 0
                have z1 : w3.cell? ⟨gx, 1, none⟩ = some (.string ⟨#[]⟩) := hg3.b.cell 1
                have z2 : w3.cell? ⟨gx, 2, none⟩ = some (.string ⟨#[]⟩) := hg3.b.cell 2
                have z3 : w3.cell? ⟨gx, 3, none⟩ = some (.int .i64 0) := hg3.b.cell 3
                have f0 := hg3.b.frozen 0
                have f1 := hg3.b.frozen 1
                have f2 := hg3.b.frozen 2
                have f3 := hg3.b.frozen 3
                have htu := tu_set4 hg3 hgW ⟨pv, pn, pt, pe⟩
                obtain ⟨wx, hwx⟩ : ∃ wx, set4 w3 gx ⟨pv, pn, pt, pe⟩ = wx := ⟨_, rfl⟩
                have hww := hw3.tu htu
                have hll := htu.lr hl3 (by decide)
                have hkk := htu.bz hk3 (by decide)
                have hgg : Bz wx (H5 ++ G) gx 31 (pcs ⟨pv, pn, pt, pe⟩) := by rw [← hwx]; exact ⟨hg3.b.set4 ⟨pv, pn, pt, pe⟩, hg3.n⟩
                rw [hwx] at hww hll hkk
                refine wpAnyH_ready (rs := [11]) (by kernel_rfl) (by simp) (AllReadyH.cons rfl (fun K hK => ?_) AllReadyH.nil)
                rw [if_pos (by kernel_rfl)]
                go_simp
                simp only [set4] at hwx
                try rw [hwx]
                refine hK.out _ _ hkk.b (fun hHeld => ?_)
                try simp only [Act.put, List.setIfInBounds_toArray, List.set_cons_zero, List.set_cons_succ, List.getElem_toArray, List.getElem_cons_succ, List.getElem_cons_zero]
                refine take_at (some 12) (i := 12) (v := ?_) rfl rfl (by kernel_rfl) (by kernel_rfl) (by kernel_rfl) (fun _ _ _ h => h) (Or.inl ⟨by kernel_rfl, ?_⟩) hHeld ?_
                rotate_left
                · intro wz hSw; go_simp; try (with_reducible rfl)
                try simp only [Act.put, List.setIfInBounds_toArray, List.set_cons_zero, List.set_cons_succ, List.getElem_toArray, List.getElem_cons_succ, List.getElem_cons_zero]
                refine wpAnyH_done (by kernel_rfl) ?_ _
                have HWx19 := Lib.hid hww
                have HXx19 := Lib.hid hll
                have HBx19 := Lib.hid hkk
                have HGx19 := Lib.hid hgg
                clear hHeld hwx htu hww hll hkk hgg hgW z0 z1 z2 z3 f0 f1 f2 f3 hw0 hl0 hk0 hw1 hl1 hk1 hw2 hl2 hk2 hw3 hl3 hk3  
                obtain ⟨ux, hux⟩ : ∃ q, wx = q := ⟨_, rfl⟩
                rw [hux] at HWx19 HXx19 HBx19 HGx19 ⊢
                clear hux
                obtain ⟨gy, hgy⟩ : ∃ q, gx = q := ⟨_, rfl⟩
                rw [hgy] at HGx19 ⊢
                clear hgy
                go_upto_region 20 with fail
                try simp only [List.cons_append, List.nil_append]
                refine wp_region_held_drew (S := fun wz => Bk wz kb 33 #[.int .i64 2, .int .i64 ov, .string on, .string ot, .int .i64 oe, .string od, .int .i64 oa, .string ox, .string og]) (by kernel_rfl) (HBx19.out.b.below (show Below ux.heap.size ux ux.drew from (Below.refl _ _).drew) HBx19.out.b.lt) (fun hHeld => ?_)
                refine take_at (some 99) (i := 0) (v := ?_) rfl rfl (by kernel_rfl) (by kernel_rfl) (by kernel_rfl) (fun _ _ _ h => h) (Or.inl ⟨by kernel_rfl, ?_⟩) hHeld ?_
                rotate_left
                · intro wz hSw; go_simp; try (with_reducible rfl)
                try simp only [Act.put, List.setIfInBounds_toArray, List.set_cons_zero, List.set_cons_succ, List.getElem_toArray, List.getElem_cons_succ, List.getElem_cons_zero]
                refine take_at (some 100) (i := 1) (v := ?_) rfl rfl (by kernel_rfl) (by kernel_rfl) (by kernel_rfl) (fun _ _ _ h => h) (Or.inl ⟨by kernel_rfl, ?_⟩) hHeld ?_
                rotate_left
                · intro wz hSw; have q0 : wz.cell? ⟨kb, 0, none⟩ = some (.int .i64 2) := hSw.cell 0; have q1 : wz.cell? ⟨kb, 1, none⟩ = some (.int .i64 ov) := hSw.cell 1; have q2 : wz.cell? ⟨kb, 2, none⟩ = some (.string on) := hSw.cell 2; have q3 : wz.cell? ⟨kb, 3, none⟩ = some (.string ot) := hSw.cell 3; have q4 : wz.cell? ⟨kb, 4, none⟩ = some (.int .i64 oe) := hSw.cell 4; have q5 : wz.cell? ⟨kb, 5, none⟩ = some (.string od) := hSw.cell 5; have q6 : wz.cell? ⟨kb, 6, none⟩ = some (.int .i64 oa) := hSw.cell 6; have q7 : wz.cell? ⟨kb, 7, none⟩ = some (.string ox) := hSw.cell 7; have q8 : wz.cell? ⟨kb, 8, none⟩ = some (.string og) := hSw.cell 8; go_simp; try (with_reducible rfl)
                try simp only [Act.put, List.setIfInBounds_toArray, List.set_cons_zero, List.set_cons_succ, List.getElem_toArray, List.getElem_cons_succ, List.getElem_cons_zero]
                refine take_at (some 101) (i := 2) (v := ?_) rfl rfl (by kernel_rfl) (by kernel_rfl) (by kernel_rfl) (fun _ _ _ h => h) (Or.inl ⟨by kernel_rfl, ?_⟩) hHeld ?_
                rotate_left
                · intro wz hSw; go_simp; try (with_reducible rfl)
                try simp only [Act.put, List.setIfInBounds_toArray, List.set_cons_zero, List.set_cons_succ, List.getElem_toArray, List.getElem_cons_succ, List.getElem_cons_zero]
                refine take_at (some 103) (i := 4) (v := ?_) rfl rfl (by kernel_rfl) (by kernel_rfl) (by kernel_rfl) (fun _ _ _ h => h) (Or.inl ⟨by kernel_rfl, ?_⟩) hHeld ?_
                rotate_left
                · intro wz hSw; go_simp; try (with_reducible rfl)
                try simp only [Act.put, List.setIfInBounds_toArray, List.set_cons_zero, List.set_cons_succ, List.getElem_toArray, List.getElem_cons_succ, List.getElem_cons_zero]
                refine take_at (some 104) (i := 5) (v := ?_) rfl rfl (by kernel_rfl) (by kernel_rfl) (by kernel_rfl) (fun _ _ _ h => h) (Or.inl ⟨by kernel_rfl, ?_⟩) hHeld ?_
                rotate_left
                · intro wz hSw; have q0 : wz.cell? ⟨kb, 0, none⟩ = some (.int .i64 2) := hSw.cell 0; have q1 : wz.cell? ⟨kb, 1, none⟩ = some (.int .i64 ov) := hSw.cell 1; have q2 : wz.cell? ⟨kb, 2, none⟩ = some (.string on) := hSw.cell 2; have q3 : wz.cell? ⟨kb, 3, none⟩ = some (.string ot) := hSw.cell 3; have q4 : wz.cell? ⟨kb, 4, none⟩ = some (.int .i64 oe) := hSw.cell 4; have q5 : wz.cell? ⟨kb, 5, none⟩ = some (.string od) := hSw.cell 5; have q6 : wz.cell? ⟨kb, 6, none⟩ = some (.int .i64 oa) := hSw.cell 6; have q7 : wz.cell? ⟨kb, 7, none⟩ = some (.string ox) := hSw.cell 7; have q8 : wz.cell? ⟨kb, 8, none⟩ = some (.string og) := hSw.cell 8; go_simp; try (with_reducible rfl)
                try simp only [Act.put, List.setIfInBounds_toArray, List.set_cons_zero, List.set_cons_succ, List.getElem_toArray, List.getElem_cons_succ, List.getElem_cons_zero]
                obtain ⟨w0, hwd⟩ : ∃ wq, ux.drew = wq := ⟨_, rfl⟩
                have hb0 : Below ux.heap.size ux w0 := by rw [← hwd]; exact (Below.refl _ _).drew
                have hw0 := HWx19.out.on hb0
                have hl0 := HXx19.out.on hb0
                have hk0 := HBx19.out.on hb0
                have hy0 := HGx19.out.on hb0
                try rw [hwd]
                clear hwd hb0
                refine wpAnyH_ready (rs := [3, 10]) (by kernel_rfl) (by simp) (AllReadyH.cons rfl (fun K hK => ?_) (AllReadyH.cons rfl (fun K hK => ?_) (AllReadyH.nil)))
                · rw [if_pos (by kernel_rfl)]
                  go_simp
                  refine (show Calls Tryd.prog 14 #[.agg #[.int .i64 2, .int .i64 ov, .string on, .string ot, .int .i64 oe, .string od, .int .i64 oa, .string ox, .string og], .slice A1 m c1] w0 _ from tshown_ok ⟨2, ⟨ov, on, ot, oe⟩, od, oa, ox, og⟩ A1 L m c1 w0 (Ow.rw_ (fun _ => rfl) hl0.o) HE.out.1 S HSS.out).mono ?_
                  rintro e w1 ⟨rfl, hb⟩
                  try dsimp only
                  have hw1 := hw0.on hb
                  have hl1 := hl0.on hb
                  have hk1 := hk0.on hb
                  have hy1 := hy0.on hb
                  clear hb
                  refine hK.out _ _ hk1.b (fun hHeld => ?_)
                  try simp only [Act.put, List.setIfInBounds_toArray, List.set_cons_zero, List.set_cons_succ, List.getElem_toArray, List.getElem_cons_succ, List.getElem_cons_zero]
                  refine wpAnyH_ready (rs := [6, 10]) (by kernel_rfl) (by simp) (AllReadyH.cons rfl (fun K hK => ?_) (AllReadyH.cons rfl (fun K hK => ?_) (AllReadyH.nil)))
                  · rw [if_pos (by kernel_rfl)]
                    go_simp
                    refine (r_redeem hw1.d HE.out.2.2.2.1 S og ⟨pv, pn, pt, pe⟩ er b2 HR.out).mono ?_
                    rintro e w2 ⟨G5, rfl, h1, h2⟩
                    try dsimp only
                    have hw2 := hw1.right h2 h1
                    have hl2 := hl1.step (h2.right H5)
                    have hk2 := hk1.step (h2.right H5)
                    have hy2 := hy1.step (h2.right H5)
                    clear h1 h2
                    refine hK.out _ _ hk2.b (fun hHeld => ?_)
                    try simp only [Act.put, List.setIfInBounds_toArray, List.set_cons_zero, List.set_cons_succ, List.getElem_toArray, List.getElem_cons_succ, List.getElem_cons_zero]
                    refine take_at (some 98) (i := 7) (v := ?_) rfl rfl (by kernel_rfl) (by kernel_rfl) (by kernel_rfl) (fun _ _ _ h => h) (Or.inl ⟨by kernel_rfl, ?_⟩) hHeld ?_
                    rotate_left
                    · intro wz hSw; go_simp; try (with_reducible rfl)
                    try simp only [Act.put, List.setIfInBounds_toArray, List.set_cons_zero, List.set_cons_succ, List.getElem_toArray, List.getElem_cons_succ, List.getElem_cons_zero]
                    refine take_at (some 106) (i := 8) (v := ?_) rfl rfl (by kernel_rfl) (by kernel_rfl) (by kernel_rfl) (fun _ _ _ h => h) (Or.inl ⟨by kernel_rfl, ?_⟩) hHeld ?_
                    rotate_left
                    · intro wz hSw; go_simp; try (with_reducible rfl)
                    try simp only [Act.put, List.setIfInBounds_toArray, List.set_cons_zero, List.set_cons_succ, List.getElem_toArray, List.getElem_cons_succ, List.getElem_cons_zero]
                    refine take_at (some 107) (i := 9) (v := ?_) rfl rfl (by kernel_rfl) (by kernel_rfl) (by kernel_rfl) (fun _ _ _ h => h) (Or.inl ⟨by kernel_rfl, ?_⟩) hHeld ?_
                    rotate_left
                    · intro wz hSw; go_simp; try (with_reducible rfl)
                    try simp only [Act.put, List.setIfInBounds_toArray, List.set_cons_zero, List.set_cons_succ, List.getElem_toArray, List.getElem_cons_succ, List.getElem_cons_zero]
                    refine wpAnyH_ready (rs := [10]) (by kernel_rfl) (by simp) (AllReadyH.cons rfl (fun K hK => ?_) (AllReadyH.nil))
                    · rw [if_pos (by kernel_rfl)]
                      go_simp
                      try dsimp only
                      obtain ⟨w3, hw5⟩ : ∃ wq, w2.alloc (.cells #[.int .i64 0, .string ⟨#[]⟩, .string ⟨#[]⟩, .int .i64 0] 31) = wq := ⟨_, rfl⟩
                      obtain ⟨gx, hgw⟩ : ∃ gq, w2.heap.size = gq := ⟨_, rfl⟩
                      have hg3 : Bz w3 (H5 ++ G5) gx 31 (pcs zeroPs) := by rw [← hw5, ← hgw]; exact Bz.new hw2.hi _ _
                      have hgW : W.heap.size ≤ gx := by rw [← hgw]; exact hw2.z.l.size
                      have hneq : gy ≠ gx := fun e => by have := hy2.b.lt; omega
                      have hbel : Below w2.heap.size w2 w3 := by rw [← hw5]; exact (Below.refl _ _).alloc (Nat.le_refl _) _
                      have hw3 := hw2.on hbel
                      have hl3 := hl2.on hbel
                      have hk3 := hk2.on hbel
                      have hy3 := hy2.on hbel
                      try rw [hw5]
                      try rw [hgw]
                      clear hw5 hgw hbel
                      refine hK.out _ _ hk3.b (fun hHeld => ?_)
                      try simp only [Act.put, List.setIfInBounds_toArray, List.set_cons_zero, List.set_cons_succ, List.getElem_toArray, List.getElem_cons_succ, List.getElem_cons_zero]
                      have z0 : w3.cell? ⟨gx, 0, none⟩ = some (.int .i64 0) := hg3.b.cell 0
                      have z1 : w3.cell? ⟨gx, 1, none⟩ = some (.string ⟨#[]⟩) := hg3.b.cell 1
                      have z2 : w3.cell? ⟨gx, 2, none⟩ = some (.string ⟨#[]⟩) := hg3.b.cell 2
                      have z3 : w3.cell? ⟨gx, 3, none⟩ = some (.int .i64 0) := hg3.b.cell 3
                      have f0 := hg3.b.frozen 0
                      have f1 := hg3.b.frozen 1
                      have f2 := hg3.b.frozen 2
                      have f3 := hg3.b.frozen 3
                      have htu := tu_set4 hg3 hgW ⟨pv, pn, pt, pe⟩
                      obtain ⟨wx, hwx⟩ : ∃ wx, set4 w3 gx ⟨pv, pn, pt, pe⟩ = wx := ⟨_, rfl⟩
                      have hww := hw3.tu htu
                      have hll := htu.lr hl3 (by decide)
                      have hkk := htu.bz hk3 (by decide)
                      have hgg : Bz wx (H5 ++ G5) gx 31 (pcs ⟨pv, pn, pt, pe⟩) := by rw [← hwx]; exact ⟨hg3.b.set4 ⟨pv, pn, pt, pe⟩, hg3.n⟩
                      have hyx : Bz wx (H5 ++ G5) gy 31 (pcs ⟨pv, pn, pt, pe⟩) := by rw [← hwx]; exact ⟨hy3.b.ke (ke_set4 w3 gx ⟨pv, pn, pt, pe⟩) (by simpa using hneq), hy3.n⟩
                      rw [hwx] at hww hll hkk
                      refine wpAnyH_ready (rs := [11]) (by kernel_rfl) (by simp) (AllReadyH.cons rfl (fun K hK => ?_) AllReadyH.nil)
                      rw [if_pos (by kernel_rfl)]
                      go_simp
                      simp only [set4] at hwx
                      try rw [hwx]
                      refine hK.out _ _ hkk.b (fun hHeld => ?_)
                      try simp only [Act.put, List.setIfInBounds_toArray, List.set_cons_zero, List.set_cons_succ, List.getElem_toArray, List.getElem_cons_succ, List.getElem_cons_zero]
                      refine take_at (some 14) (i := 12) (v := ?_) rfl rfl (by kernel_rfl) (by kernel_rfl) (by kernel_rfl) (fun _ _ _ h => h) (Or.inl ⟨by kernel_rfl, ?_⟩) hHeld ?_
                      rotate_left
                      · intro wz hSw; go_simp; try (with_reducible rfl)
                      try simp only [Act.put, List.setIfInBounds_toArray, List.set_cons_zero, List.set_cons_succ, List.getElem_toArray, List.getElem_cons_succ, List.getElem_cons_zero]
                      refine wpAnyH_done (by kernel_rfl) ?_ _
                      have HWx20 := Lib.hid hww
                      have HXx20 := Lib.hid hll
                      have HBx20 := Lib.hid hkk
                      have HGx20 := Lib.hid hgg
                      have HYx20 := Lib.hid hyx
                      clear hHeld hwx htu hww hll hkk hgg hgW z0 z1 z2 z3 f0 f1 f2 f3 hw0 hl0 hk0 hw1 hl1 hk1 hw2 hl2 hk2 hw3 hl3 hk3 hy0 hy1 hy2 hy3 hyx
                      obtain ⟨uz, huz⟩ : ∃ q, wx = q := ⟨_, rfl⟩
                      rw [huz] at HWx20 HXx20 HBx20 HGx20 HYx20 ⊢
                      clear huz
                      have a0 : uz.cell? ⟨gx, 0, none⟩ = some (.int .i64 pv) := HGx20.out.b.cell 0
                      have a1 : uz.cell? ⟨gx, 1, none⟩ = some (.string pn) := HGx20.out.b.cell 1
                      have a2 : uz.cell? ⟨gx, 2, none⟩ = some (.string pt) := HGx20.out.b.cell 2
                      have a3 : uz.cell? ⟨gx, 3, none⟩ = some (.int .i64 pe) := HGx20.out.b.cell 3
                      have b0 : uz.cell? ⟨gy, 0, none⟩ = some (.int .i64 pv) := HYx20.out.b.cell 0
                      have b1 : uz.cell? ⟨gy, 1, none⟩ = some (.string pn) := HYx20.out.b.cell 1
                      have b2 : uz.cell? ⟨gy, 2, none⟩ = some (.string pt) := HYx20.out.b.cell 2
                      have b3 : uz.cell? ⟨gy, 3, none⟩ = some (.int .i64 pe) := HYx20.out.b.cell 3
                      have HPE := Lib.hid (eqP_same ⟨pv, pn, pt, pe⟩)
                      have hee : (er != er) = false := by simp
                      go_upto_region 28 with (refine wpList_nep (by kernel_rfl) (.tmp 108) (.tmp 109) _ rfl ⟨pv, pn, pt, pe⟩ ⟨pv, pn, pt, pe⟩ rfl rfl ?_; rw [HPE.out])
                      clear a0 a1 a2 a3 b0 b1 b2 b3
                      have HE2 := Lib.hid (show L.length = m ∧ m ≤ i + 1 ∧ b2.se ≤ ((i + 1 : Nat) : Int) ∧ Gk b2 ∧ ∀ s ∈ L, s.size ≤ 1099511627776 from ⟨HE.out.1, by have := HE.out.2.1; omega, by rw [HSE.out]; have := HE.out.2.2.1; omega, HG2.out, HE.out.2.2.2.2⟩)
                      obtain ⟨M, hM⟩ : ∃ M, b2.l.length = M := ⟨_, rfl⟩
                      have HM := Lib.hid hM
                      obtain ⟨A6, c6, hbk, _, _⟩ := HWx20.out.d.ex
                      rw [hM] at hbk
                      have HBK := Lib.hid hbk
                      clear hM hbk
                      go_upto_region 28 with fail
                      try simp only [List.cons_append, List.nil_append]
                      refine wp_region_held_drew (S := fun wz => Below uz.heap.size uz wz) (by kernel_rfl) ((Below.refl _ _).drew) (fun hHeld => ?_)
                      refine take_at (some 131) (i := 0) (v := ?_) rfl rfl (by kernel_rfl) (by kernel_rfl) (by kernel_rfl) (fun _ _ _ h => h) (Or.inl ⟨by kernel_rfl, ?_⟩) hHeld ?_
                      rotate_left
                      · intro wz hSw; go_simp; try (with_reducible rfl)
                      try simp only [Act.put, List.setIfInBounds_toArray, List.set_cons_zero, List.set_cons_succ, List.getElem_toArray, List.getElem_cons_succ, List.getElem_cons_zero]
                      refine take_at (some 133) (i := 2) (v := ?_) rfl rfl (by kernel_rfl) (by kernel_rfl) (by kernel_rfl) (fun _ _ _ h => h) (Or.inl ⟨by kernel_rfl, ?_⟩) hHeld ?_
                      rotate_left
                      · intro wz hSw; go_simp; try (with_reducible rfl)
                      try simp only [Act.put, List.setIfInBounds_toArray, List.set_cons_zero, List.set_cons_succ, List.getElem_toArray, List.getElem_cons_succ, List.getElem_cons_zero]
                      refine take_at (some 134) (i := 3) (v := ?_) rfl rfl (by kernel_rfl) (by kernel_rfl) (by kernel_rfl) (fun _ _ _ h => h) (Or.inl ⟨by kernel_rfl, ?_⟩) hHeld ?_
                      rotate_left
                      · intro wz hSw; go_simp; try (with_reducible rfl)
                      try simp only [Act.put, List.setIfInBounds_toArray, List.set_cons_zero, List.set_cons_succ, List.getElem_toArray, List.getElem_cons_succ, List.getElem_cons_zero]
                      refine take_at (some 135) (i := 4) (v := ?_) rfl rfl (by kernel_rfl) (by kernel_rfl) (by kernel_rfl) (fun _ _ _ h => h) (Or.inl ⟨by kernel_rfl, ?_⟩) hHeld ?_
                      rotate_left
                      · intro wz hSw; go_simp; try (with_reducible rfl)
                      try simp only [Act.put, List.setIfInBounds_toArray, List.set_cons_zero, List.set_cons_succ, List.getElem_toArray, List.getElem_cons_succ, List.getElem_cons_zero]
                      refine take_at (some 136) (i := 5) (v := ?_) rfl rfl (by kernel_rfl) (by kernel_rfl) (by kernel_rfl) (fun _ _ _ h => h) (Or.inl ⟨by kernel_rfl, ?_⟩) hHeld ?_
                      rotate_left
                      · intro wz hSw; have d2 : wz.cell? ⟨db, 2, none⟩ = some (.slice A6 M c6) := (HBK.out.below hSw HBK.out.lt).cell 2; go_simp; try (with_reducible rfl)
                      try simp only [Act.put, List.setIfInBounds_toArray, List.set_cons_zero, List.set_cons_succ, List.getElem_toArray, List.getElem_cons_succ, List.getElem_cons_zero]
                      refine take_at (some 137) (i := 6) (v := ?_) rfl rfl (by kernel_rfl) (by kernel_rfl) (by kernel_rfl) (fun _ _ _ h => h) (Or.inl ⟨by kernel_rfl, ?_⟩) hHeld ?_
                      rotate_left
                      · intro wz hSw; go_simp; try (with_reducible rfl)
                      try simp only [Act.put, List.setIfInBounds_toArray, List.set_cons_zero, List.set_cons_succ, List.getElem_toArray, List.getElem_cons_succ, List.getElem_cons_zero]
                      refine wpAnyH_ready (rs := [1]) (by kernel_rfl) (by simp) (AllReadyH.cons rfl (fun K hK => ?_) AllReadyH.nil)
                      rw [if_pos (by kernel_rfl)]
                      go_simp
                      refine (z_many (HWx20.out.z.on ((Below.refl uz.heap.size uz).drew)) M HM.out).mono ?_
                      rintro e y1 ⟨rfl, hb1⟩
                      try dsimp only
                      refine hK.out _ _ (((Below.refl uz.heap.size uz).drew).trans (hb1.mono ((Below.refl uz.heap.size uz).drew).size)) (fun hHeld => ?_)
                      try simp only [Act.put, List.setIfInBounds_toArray, List.set_cons_zero, List.set_cons_succ, List.getElem_toArray, List.getElem_cons_succ, List.getElem_cons_zero]
                      refine take_at (some 138) (i := 7) (v := ?_) rfl rfl (by kernel_rfl) (by kernel_rfl) (by kernel_rfl) (fun _ _ _ h => h) (Or.inl ⟨by kernel_rfl, ?_⟩) hHeld ?_
                      rotate_left
                      · intro wz hSw; go_simp; try (with_reducible rfl)
                      try simp only [Act.put, List.setIfInBounds_toArray, List.set_cons_zero, List.set_cons_succ, List.getElem_toArray, List.getElem_cons_succ, List.getElem_cons_zero]
                      refine wpAnyH_done (by kernel_rfl) ?_ _
                      have hbb := ((Below.refl uz.heap.size uz).drew).trans (hb1.mono ((Below.refl uz.heap.size uz).drew).size)
                      have HW9 := Lib.hid (HWx20.out.on hbb)
                      have HX9 := Lib.hid (HXx20.out.on hbb)
                      clear hb1 hbb hHeld
                      go_wp2_with fail
                      go_roundw
                      case rel => exact ⟨i + 1, m, b2, L, H5, G5, A1, c1, by omega, rfl, by go_num, HW9, HX9, HE2⟩
                      case measure => simp [intOf] <;> omega
                  · rw [if_pos (by kernel_rfl)]
                    go_simp
                    try dsimp only
                    obtain ⟨w2, hw5⟩ : ∃ wq, w1.alloc (.cells #[.int .i64 0, .string ⟨#[]⟩, .string ⟨#[]⟩, .int .i64 0] 31) = wq := ⟨_, rfl⟩
                    obtain ⟨gx, hgw⟩ : ∃ gq, w1.heap.size = gq := ⟨_, rfl⟩
                    have hg2 : Bz w2 (H5 ++ G) gx 31 (pcs zeroPs) := by rw [← hw5, ← hgw]; exact Bz.new hw1.hi _ _
                    have hgW : W.heap.size ≤ gx := by rw [← hgw]; exact hw1.z.l.size
                    have hneq : gy ≠ gx := fun e => by have := hy1.b.lt; omega
                    have hbel : Below w1.heap.size w1 w2 := by rw [← hw5]; exact (Below.refl _ _).alloc (Nat.le_refl _) _
                    have hw2 := hw1.on hbel
                    have hl2 := hl1.on hbel
                    have hk2 := hk1.on hbel
                    have hy2 := hy1.on hbel
                    try rw [hw5]
                    try rw [hgw]
                    clear hw5 hgw hbel
                    refine hK.out _ _ hk2.b (fun hHeld => ?_)
                    try simp only [Act.put, List.setIfInBounds_toArray, List.set_cons_zero, List.set_cons_succ, List.getElem_toArray, List.getElem_cons_succ, List.getElem_cons_zero]
                    refine wpAnyH_ready (rs := [6]) (by kernel_rfl) (by simp) (AllReadyH.cons rfl (fun K hK => ?_) (AllReadyH.nil))
                    · rw [if_pos (by kernel_rfl)]
                      go_simp
                      refine (r_redeem hw2.d HE.out.2.2.2.1 S og ⟨pv, pn, pt, pe⟩ er b2 HR.out).mono ?_
                      rintro e w3 ⟨G5, rfl, h1, h2⟩
                      try dsimp only
                      have hw3 := hw2.right h2 h1
                      have hl3 := hl2.step (h2.right H5)
                      have hk3 := hk2.step (h2.right H5)
                      have hy3 := hy2.step (h2.right H5)
                      have hg3 := hg2.step (h2.right H5)
                      clear h1 h2
                      refine hK.out _ _ hk3.b (fun hHeld => ?_)
                      try simp only [Act.put, List.setIfInBounds_toArray, List.set_cons_zero, List.set_cons_succ, List.getElem_toArray, List.getElem_cons_succ, List.getElem_cons_zero]
                      refine take_at (some 98) (i := 7) (v := ?_) rfl rfl (by kernel_rfl) (by kernel_rfl) (by kernel_rfl) (fun _ _ _ h => h) (Or.inl ⟨by kernel_rfl, ?_⟩) hHeld ?_
                      rotate_left
                      · intro wz hSw; go_simp; try (with_reducible rfl)
                      try simp only [Act.put, List.setIfInBounds_toArray, List.set_cons_zero, List.set_cons_succ, List.getElem_toArray, List.getElem_cons_succ, List.getElem_cons_zero]
                      refine take_at (some 106) (i := 8) (v := ?_) rfl rfl (by kernel_rfl) (by kernel_rfl) (by kernel_rfl) (fun _ _ _ h => h) (Or.inl ⟨by kernel_rfl, ?_⟩) hHeld ?_
                      rotate_left
                      · intro wz hSw; go_simp; try (with_reducible rfl)
                      try simp only [Act.put, List.setIfInBounds_toArray, List.set_cons_zero, List.set_cons_succ, List.getElem_toArray, List.getElem_cons_succ, List.getElem_cons_zero]
                      refine take_at (some 107) (i := 9) (v := ?_) rfl rfl (by kernel_rfl) (by kernel_rfl) (by kernel_rfl) (fun _ _ _ h => h) (Or.inl ⟨by kernel_rfl, ?_⟩) hHeld ?_
                      rotate_left
                      · intro wz hSw; go_simp; try (with_reducible rfl)
                      try simp only [Act.put, List.setIfInBounds_toArray, List.set_cons_zero, List.set_cons_succ, List.getElem_toArray, List.getElem_cons_succ, List.getElem_cons_zero]
                      have z0 : w3.cell? ⟨gx, 0, none⟩ = some (.int .i64 0) := hg3.b.cell 0
                      have z1 : w3.cell? ⟨gx, 1, none⟩ = some (.string ⟨#[]⟩) := hg3.b.cell 1
                      have z2 : w3.cell? ⟨gx, 2, none⟩ = some (.string ⟨#[]⟩) := hg3.b.cell 2
                      have z3 : w3.cell? ⟨gx, 3, none⟩ = some (.int .i64 0) := hg3.b.cell 3
                      have f0 := hg3.b.frozen 0
                      have f1 := hg3.b.frozen 1
                      have f2 := hg3.b.frozen 2
                      have f3 := hg3.b.frozen 3
                      have htu := tu_set4 hg3 hgW ⟨pv, pn, pt, pe⟩
                      obtain ⟨wx, hwx⟩ : ∃ wx, set4 w3 gx ⟨pv, pn, pt, pe⟩ = wx := ⟨_, rfl⟩
                      have hww := hw3.tu htu
                      have hll := htu.lr hl3 (by decide)
                      have hkk := htu.bz hk3 (by decide)
                      have hgg : Bz wx (H5 ++ G5) gx 31 (pcs ⟨pv, pn, pt, pe⟩) := by rw [← hwx]; exact ⟨hg3.b.set4 ⟨pv, pn, pt, pe⟩, hg3.n⟩
                      have hyx : Bz wx (H5 ++ G5) gy 31 (pcs ⟨pv, pn, pt, pe⟩) := by rw [← hwx]; exact ⟨hy3.b.ke (ke_set4 w3 gx ⟨pv, pn, pt, pe⟩) (by simpa using hneq), hy3.n⟩
                      rw [hwx] at hww hll hkk
                      refine wpAnyH_ready (rs := [11]) (by kernel_rfl) (by simp) (AllReadyH.cons rfl (fun K hK => ?_) AllReadyH.nil)
                      rw [if_pos (by kernel_rfl)]
                      go_simp
                      simp only [set4] at hwx
                      try rw [hwx]
                      refine hK.out _ _ hkk.b (fun hHeld => ?_)
                      try simp only [Act.put, List.setIfInBounds_toArray, List.set_cons_zero, List.set_cons_succ, List.getElem_toArray, List.getElem_cons_succ, List.getElem_cons_zero]
                      refine take_at (some 14) (i := 12) (v := ?_) rfl rfl (by kernel_rfl) (by kernel_rfl) (by kernel_rfl) (fun _ _ _ h => h) (Or.inl ⟨by kernel_rfl, ?_⟩) hHeld ?_
                      rotate_left
                      · intro wz hSw; go_simp; try (with_reducible rfl)
                      try simp only [Act.put, List.setIfInBounds_toArray, List.set_cons_zero, List.set_cons_succ, List.getElem_toArray, List.getElem_cons_succ, List.getElem_cons_zero]
                      refine wpAnyH_done (by kernel_rfl) ?_ _
                      have HWx20 := Lib.hid hww
                      have HXx20 := Lib.hid hll
                      have HBx20 := Lib.hid hkk
                      have HGx20 := Lib.hid hgg
                      have HYx20 := Lib.hid hyx
                      clear hHeld hwx htu hww hll hkk hgg hgW z0 z1 z2 z3 f0 f1 f2 f3 hw0 hl0 hk0 hw1 hl1 hk1 hw2 hl2 hk2 hw3 hl3 hk3 hy0 hy1 hy2 hy3 hyx
                      obtain ⟨uz, huz⟩ : ∃ q, wx = q := ⟨_, rfl⟩
                      rw [huz] at HWx20 HXx20 HBx20 HGx20 HYx20 ⊢
                      clear huz
                      have a0 : uz.cell? ⟨gx, 0, none⟩ = some (.int .i64 pv) := HGx20.out.b.cell 0
                      have a1 : uz.cell? ⟨gx, 1, none⟩ = some (.string pn) := HGx20.out.b.cell 1
                      have a2 : uz.cell? ⟨gx, 2, none⟩ = some (.string pt) := HGx20.out.b.cell 2
                      have a3 : uz.cell? ⟨gx, 3, none⟩ = some (.int .i64 pe) := HGx20.out.b.cell 3
                      have b0 : uz.cell? ⟨gy, 0, none⟩ = some (.int .i64 pv) := HYx20.out.b.cell 0
                      have b1 : uz.cell? ⟨gy, 1, none⟩ = some (.string pn) := HYx20.out.b.cell 1
                      have b2 : uz.cell? ⟨gy, 2, none⟩ = some (.string pt) := HYx20.out.b.cell 2
                      have b3 : uz.cell? ⟨gy, 3, none⟩ = some (.int .i64 pe) := HYx20.out.b.cell 3
                      have HPE := Lib.hid (eqP_same ⟨pv, pn, pt, pe⟩)
                      have hee : (er != er) = false := by simp
                      go_upto_region 28 with (refine wpList_nep (by kernel_rfl) (.tmp 108) (.tmp 109) _ rfl ⟨pv, pn, pt, pe⟩ ⟨pv, pn, pt, pe⟩ rfl rfl ?_; rw [HPE.out])
                      clear a0 a1 a2 a3 b0 b1 b2 b3
                      have HE2 := Lib.hid (show L.length = m ∧ m ≤ i + 1 ∧ b2.se ≤ ((i + 1 : Nat) : Int) ∧ Gk b2 ∧ ∀ s ∈ L, s.size ≤ 1099511627776 from ⟨HE.out.1, by have := HE.out.2.1; omega, by rw [HSE.out]; have := HE.out.2.2.1; omega, HG2.out, HE.out.2.2.2.2⟩)
                      obtain ⟨M, hM⟩ : ∃ M, b2.l.length = M := ⟨_, rfl⟩
                      have HM := Lib.hid hM
                      obtain ⟨A6, c6, hbk, _, _⟩ := HWx20.out.d.ex
                      rw [hM] at hbk
                      have HBK := Lib.hid hbk
                      clear hM hbk
                      go_upto_region 28 with fail
                      try simp only [List.cons_append, List.nil_append]
                      refine wp_region_held_drew (S := fun wz => Below uz.heap.size uz wz) (by kernel_rfl) ((Below.refl _ _).drew) (fun hHeld => ?_)
                      refine take_at (some 131) (i := 0) (v := ?_) rfl rfl (by kernel_rfl) (by kernel_rfl) (by kernel_rfl) (fun _ _ _ h => h) (Or.inl ⟨by kernel_rfl, ?_⟩) hHeld ?_
                      rotate_left
                      · intro wz hSw; go_simp; try (with_reducible rfl)
                      try simp only [Act.put, List.setIfInBounds_toArray, List.set_cons_zero, List.set_cons_succ, List.getElem_toArray, List.getElem_cons_succ, List.getElem_cons_zero]
                      refine take_at (some 133) (i := 2) (v := ?_) rfl rfl (by kernel_rfl) (by kernel_rfl) (by kernel_rfl) (fun _ _ _ h => h) (Or.inl ⟨by kernel_rfl, ?_⟩) hHeld ?_
                      rotate_left
                      · intro wz hSw; go_simp; try (with_reducible rfl)
                      try simp only [Act.put, List.setIfInBounds_toArray, List.set_cons_zero, List.set_cons_succ, List.getElem_toArray, List.getElem_cons_succ, List.getElem_cons_zero]
                      refine take_at (some 134) (i := 3) (v := ?_) rfl rfl (by kernel_rfl) (by kernel_rfl) (by kernel_rfl) (fun _ _ _ h => h) (Or.inl ⟨by kernel_rfl, ?_⟩) hHeld ?_
                      rotate_left
                      · intro wz hSw; go_simp; try (with_reducible rfl)
                      try simp only [Act.put, List.setIfInBounds_toArray, List.set_cons_zero, List.set_cons_succ, List.getElem_toArray, List.getElem_cons_succ, List.getElem_cons_zero]
                      refine take_at (some 135) (i := 4) (v := ?_) rfl rfl (by kernel_rfl) (by kernel_rfl) (by kernel_rfl) (fun _ _ _ h => h) (Or.inl ⟨by kernel_rfl, ?_⟩) hHeld ?_
                      rotate_left
                      · intro wz hSw; go_simp; try (with_reducible rfl)
                      try simp only [Act.put, List.setIfInBounds_toArray, List.set_cons_zero, List.set_cons_succ, List.getElem_toArray, List.getElem_cons_succ, List.getElem_cons_zero]
                      refine take_at (some 136) (i := 5) (v := ?_) rfl rfl (by kernel_rfl) (by kernel_rfl) (by kernel_rfl) (fun _ _ _ h => h) (Or.inl ⟨by kernel_rfl, ?_⟩) hHeld ?_
                      rotate_left
                      · intro wz hSw; have d2 : wz.cell? ⟨db, 2, none⟩ = some (.slice A6 M c6) := (HBK.out.below hSw HBK.out.lt).cell 2; go_simp; try (with_reducible rfl)
                      try simp only [Act.put, List.setIfInBounds_toArray, List.set_cons_zero, List.set_cons_succ, List.getElem_toArray, List.getElem_cons_succ, List.getElem_cons_zero]
                      refine take_at (some 137) (i := 6) (v := ?_) rfl rfl (by kernel_rfl) (by kernel_rfl) (by kernel_rfl) (fun _ _ _ h => h) (Or.inl ⟨by kernel_rfl, ?_⟩) hHeld ?_
                      rotate_left
                      · intro wz hSw; go_simp; try (with_reducible rfl)
                      try simp only [Act.put, List.setIfInBounds_toArray, List.set_cons_zero, List.set_cons_succ, List.getElem_toArray, List.getElem_cons_succ, List.getElem_cons_zero]
                      refine wpAnyH_ready (rs := [1]) (by kernel_rfl) (by simp) (AllReadyH.cons rfl (fun K hK => ?_) AllReadyH.nil)
                      rw [if_pos (by kernel_rfl)]
                      go_simp
                      refine (z_many (HWx20.out.z.on ((Below.refl uz.heap.size uz).drew)) M HM.out).mono ?_
                      rintro e y1 ⟨rfl, hb1⟩
                      try dsimp only
                      refine hK.out _ _ (((Below.refl uz.heap.size uz).drew).trans (hb1.mono ((Below.refl uz.heap.size uz).drew).size)) (fun hHeld => ?_)
                      try simp only [Act.put, List.setIfInBounds_toArray, List.set_cons_zero, List.set_cons_succ, List.getElem_toArray, List.getElem_cons_succ, List.getElem_cons_zero]
                      refine take_at (some 138) (i := 7) (v := ?_) rfl rfl (by kernel_rfl) (by kernel_rfl) (by kernel_rfl) (fun _ _ _ h => h) (Or.inl ⟨by kernel_rfl, ?_⟩) hHeld ?_
                      rotate_left
                      · intro wz hSw; go_simp; try (with_reducible rfl)
                      try simp only [Act.put, List.setIfInBounds_toArray, List.set_cons_zero, List.set_cons_succ, List.getElem_toArray, List.getElem_cons_succ, List.getElem_cons_zero]
                      refine wpAnyH_done (by kernel_rfl) ?_ _
                      have hbb := ((Below.refl uz.heap.size uz).drew).trans (hb1.mono ((Below.refl uz.heap.size uz).drew).size)
                      have HW9 := Lib.hid (HWx20.out.on hbb)
                      have HX9 := Lib.hid (HXx20.out.on hbb)
                      clear hb1 hbb hHeld
                      go_wp2_with fail
                      go_roundw
                      case rel => exact ⟨i + 1, m, b2, L, H5, G5, A1, c1, by omega, rfl, by go_num, HW9, HX9, HE2⟩
                      case measure => simp [intOf] <;> omega
                · rw [if_pos (by kernel_rfl)]
                  go_simp
                  try dsimp only
                  obtain ⟨w1, hw5⟩ : ∃ wq, w0.alloc (.cells #[.int .i64 0, .string ⟨#[]⟩, .string ⟨#[]⟩, .int .i64 0] 31) = wq := ⟨_, rfl⟩
                  obtain ⟨gx, hgw⟩ : ∃ gq, w0.heap.size = gq := ⟨_, rfl⟩
                  have hg1 : Bz w1 (H5 ++ G) gx 31 (pcs zeroPs) := by rw [← hw5, ← hgw]; exact Bz.new hw0.hi _ _
                  have hgW : W.heap.size ≤ gx := by rw [← hgw]; exact hw0.z.l.size
                  have hneq : gy ≠ gx := fun e => by have := hy0.b.lt; omega
                  have hbel : Below w0.heap.size w0 w1 := by rw [← hw5]; exact (Below.refl _ _).alloc (Nat.le_refl _) _
                  have hw1 := hw0.on hbel
                  have hl1 := hl0.on hbel
                  have hk1 := hk0.on hbel
                  have hy1 := hy0.on hbel
                  try rw [hw5]
                  try rw [hgw]
                  clear hw5 hgw hbel
                  refine hK.out _ _ hk1.b (fun hHeld => ?_)
                  try simp only [Act.put, List.setIfInBounds_toArray, List.set_cons_zero, List.set_cons_succ, List.getElem_toArray, List.getElem_cons_succ, List.getElem_cons_zero]
                  refine wpAnyH_ready (rs := [3]) (by kernel_rfl) (by simp) (AllReadyH.cons rfl (fun K hK => ?_) (AllReadyH.nil))
                  · rw [if_pos (by kernel_rfl)]
                    go_simp
                    refine (show Calls Tryd.prog 14 #[.agg #[.int .i64 2, .int .i64 ov, .string on, .string ot, .int .i64 oe, .string od, .int .i64 oa, .string ox, .string og], .slice A1 m c1] w1 _ from tshown_ok ⟨2, ⟨ov, on, ot, oe⟩, od, oa, ox, og⟩ A1 L m c1 w1 (Ow.rw_ (fun _ => rfl) hl1.o) HE.out.1 S HSS.out).mono ?_
                    rintro e w2 ⟨rfl, hb⟩
                    try dsimp only
                    have hw2 := hw1.on hb
                    have hl2 := hl1.on hb
                    have hk2 := hk1.on hb
                    have hy2 := hy1.on hb
                    have hg2 := hg1.on hb
                    clear hb
                    refine hK.out _ _ hk2.b (fun hHeld => ?_)
                    try simp only [Act.put, List.setIfInBounds_toArray, List.set_cons_zero, List.set_cons_succ, List.getElem_toArray, List.getElem_cons_succ, List.getElem_cons_zero]
                    refine wpAnyH_ready (rs := [6]) (by kernel_rfl) (by simp) (AllReadyH.cons rfl (fun K hK => ?_) (AllReadyH.nil))
                    · rw [if_pos (by kernel_rfl)]
                      go_simp
                      refine (r_redeem hw2.d HE.out.2.2.2.1 S og ⟨pv, pn, pt, pe⟩ er b2 HR.out).mono ?_
                      rintro e w3 ⟨G5, rfl, h1, h2⟩
                      try dsimp only
                      have hw3 := hw2.right h2 h1
                      have hl3 := hl2.step (h2.right H5)
                      have hk3 := hk2.step (h2.right H5)
                      have hy3 := hy2.step (h2.right H5)
                      have hg3 := hg2.step (h2.right H5)
                      clear h1 h2
                      refine hK.out _ _ hk3.b (fun hHeld => ?_)
                      try simp only [Act.put, List.setIfInBounds_toArray, List.set_cons_zero, List.set_cons_succ, List.getElem_toArray, List.getElem_cons_succ, List.getElem_cons_zero]
                      refine take_at (some 98) (i := 7) (v := ?_) rfl rfl (by kernel_rfl) (by kernel_rfl) (by kernel_rfl) (fun _ _ _ h => h) (Or.inl ⟨by kernel_rfl, ?_⟩) hHeld ?_
                      rotate_left
                      · intro wz hSw; go_simp; try (with_reducible rfl)
                      try simp only [Act.put, List.setIfInBounds_toArray, List.set_cons_zero, List.set_cons_succ, List.getElem_toArray, List.getElem_cons_succ, List.getElem_cons_zero]
                      refine take_at (some 106) (i := 8) (v := ?_) rfl rfl (by kernel_rfl) (by kernel_rfl) (by kernel_rfl) (fun _ _ _ h => h) (Or.inl ⟨by kernel_rfl, ?_⟩) hHeld ?_
                      rotate_left
                      · intro wz hSw; go_simp; try (with_reducible rfl)
                      try simp only [Act.put, List.setIfInBounds_toArray, List.set_cons_zero, List.set_cons_succ, List.getElem_toArray, List.getElem_cons_succ, List.getElem_cons_zero]
                      refine take_at (some 107) (i := 9) (v := ?_) rfl rfl (by kernel_rfl) (by kernel_rfl) (by kernel_rfl) (fun _ _ _ h => h) (Or.inl ⟨by kernel_rfl, ?_⟩) hHeld ?_
                      rotate_left
                      · intro wz hSw; go_simp; try (with_reducible rfl)
                      try simp only [Act.put, List.setIfInBounds_toArray, List.set_cons_zero, List.set_cons_succ, List.getElem_toArray, List.getElem_cons_succ, List.getElem_cons_zero]
                      have z0 : w3.cell? ⟨gx, 0, none⟩ = some (.int .i64 0) := hg3.b.cell 0
                      have z1 : w3.cell? ⟨gx, 1, none⟩ = some (.string ⟨#[]⟩) := hg3.b.cell 1
                      have z2 : w3.cell? ⟨gx, 2, none⟩ = some (.string ⟨#[]⟩) := hg3.b.cell 2
                      have z3 : w3.cell? ⟨gx, 3, none⟩ = some (.int .i64 0) := hg3.b.cell 3
                      have f0 := hg3.b.frozen 0
                      have f1 := hg3.b.frozen 1
                      have f2 := hg3.b.frozen 2
                      have f3 := hg3.b.frozen 3
                      have htu := tu_set4 hg3 hgW ⟨pv, pn, pt, pe⟩
                      obtain ⟨wx, hwx⟩ : ∃ wx, set4 w3 gx ⟨pv, pn, pt, pe⟩ = wx := ⟨_, rfl⟩
                      have hww := hw3.tu htu
                      have hll := htu.lr hl3 (by decide)
                      have hkk := htu.bz hk3 (by decide)
                      have hgg : Bz wx (H5 ++ G5) gx 31 (pcs ⟨pv, pn, pt, pe⟩) := by rw [← hwx]; exact ⟨hg3.b.set4 ⟨pv, pn, pt, pe⟩, hg3.n⟩
                      have hyx : Bz wx (H5 ++ G5) gy 31 (pcs ⟨pv, pn, pt, pe⟩) := by rw [← hwx]; exact ⟨hy3.b.ke (ke_set4 w3 gx ⟨pv, pn, pt, pe⟩) (by simpa using hneq), hy3.n⟩
                      rw [hwx] at hww hll hkk
                      refine wpAnyH_ready (rs := [11]) (by kernel_rfl) (by simp) (AllReadyH.cons rfl (fun K hK => ?_) AllReadyH.nil)
                      rw [if_pos (by kernel_rfl)]
                      go_simp
                      simp only [set4] at hwx
                      try rw [hwx]
                      refine hK.out _ _ hkk.b (fun hHeld => ?_)
                      try simp only [Act.put, List.setIfInBounds_toArray, List.set_cons_zero, List.set_cons_succ, List.getElem_toArray, List.getElem_cons_succ, List.getElem_cons_zero]
                      refine take_at (some 14) (i := 12) (v := ?_) rfl rfl (by kernel_rfl) (by kernel_rfl) (by kernel_rfl) (fun _ _ _ h => h) (Or.inl ⟨by kernel_rfl, ?_⟩) hHeld ?_
                      rotate_left
                      · intro wz hSw; go_simp; try (with_reducible rfl)
                      try simp only [Act.put, List.setIfInBounds_toArray, List.set_cons_zero, List.set_cons_succ, List.getElem_toArray, List.getElem_cons_succ, List.getElem_cons_zero]
                      refine wpAnyH_done (by kernel_rfl) ?_ _
                      have HWx20 := Lib.hid hww
                      have HXx20 := Lib.hid hll
                      have HBx20 := Lib.hid hkk
                      have HGx20 := Lib.hid hgg
                      have HYx20 := Lib.hid hyx
                      clear hHeld hwx htu hww hll hkk hgg hgW z0 z1 z2 z3 f0 f1 f2 f3 hw0 hl0 hk0 hw1 hl1 hk1 hw2 hl2 hk2 hw3 hl3 hk3 hy0 hy1 hy2 hy3 hyx
                      obtain ⟨uz, huz⟩ : ∃ q, wx = q := ⟨_, rfl⟩
                      rw [huz] at HWx20 HXx20 HBx20 HGx20 HYx20 ⊢
                      clear huz
                      have a0 : uz.cell? ⟨gx, 0, none⟩ = some (.int .i64 pv) := HGx20.out.b.cell 0
                      have a1 : uz.cell? ⟨gx, 1, none⟩ = some (.string pn) := HGx20.out.b.cell 1
                      have a2 : uz.cell? ⟨gx, 2, none⟩ = some (.string pt) := HGx20.out.b.cell 2
                      have a3 : uz.cell? ⟨gx, 3, none⟩ = some (.int .i64 pe) := HGx20.out.b.cell 3
                      have b0 : uz.cell? ⟨gy, 0, none⟩ = some (.int .i64 pv) := HYx20.out.b.cell 0
                      have b1 : uz.cell? ⟨gy, 1, none⟩ = some (.string pn) := HYx20.out.b.cell 1
                      have b2 : uz.cell? ⟨gy, 2, none⟩ = some (.string pt) := HYx20.out.b.cell 2
                      have b3 : uz.cell? ⟨gy, 3, none⟩ = some (.int .i64 pe) := HYx20.out.b.cell 3
                      have HPE := Lib.hid (eqP_same ⟨pv, pn, pt, pe⟩)
                      have hee : (er != er) = false := by simp
                      go_upto_region 28 with (refine wpList_nep (by kernel_rfl) (.tmp 108) (.tmp 109) _ rfl ⟨pv, pn, pt, pe⟩ ⟨pv, pn, pt, pe⟩ rfl rfl ?_; rw [HPE.out])
                      clear a0 a1 a2 a3 b0 b1 b2 b3
                      have HE2 := Lib.hid (show L.length = m ∧ m ≤ i + 1 ∧ b2.se ≤ ((i + 1 : Nat) : Int) ∧ Gk b2 ∧ ∀ s ∈ L, s.size ≤ 1099511627776 from ⟨HE.out.1, by have := HE.out.2.1; omega, by rw [HSE.out]; have := HE.out.2.2.1; omega, HG2.out, HE.out.2.2.2.2⟩)
                      obtain ⟨M, hM⟩ : ∃ M, b2.l.length = M := ⟨_, rfl⟩
                      have HM := Lib.hid hM
                      obtain ⟨A6, c6, hbk, _, _⟩ := HWx20.out.d.ex
                      rw [hM] at hbk
                      have HBK := Lib.hid hbk
                      clear hM hbk
                      go_upto_region 28 with fail
                      try simp only [List.cons_append, List.nil_append]
                      refine wp_region_held_drew (S := fun wz => Below uz.heap.size uz wz) (by kernel_rfl) ((Below.refl _ _).drew) (fun hHeld => ?_)
                      refine take_at (some 131) (i := 0) (v := ?_) rfl rfl (by kernel_rfl) (by kernel_rfl) (by kernel_rfl) (fun _ _ _ h => h) (Or.inl ⟨by kernel_rfl, ?_⟩) hHeld ?_
                      rotate_left
                      · intro wz hSw; go_simp; try (with_reducible rfl)
                      try simp only [Act.put, List.setIfInBounds_toArray, List.set_cons_zero, List.set_cons_succ, List.getElem_toArray, List.getElem_cons_succ, List.getElem_cons_zero]
                      refine take_at (some 133) (i := 2) (v := ?_) rfl rfl (by kernel_rfl) (by kernel_rfl) (by kernel_rfl) (fun _ _ _ h => h) (Or.inl ⟨by kernel_rfl, ?_⟩) hHeld ?_
                      rotate_left
                      · intro wz hSw; go_simp; try (with_reducible rfl)
                      try simp only [Act.put, List.setIfInBounds_toArray, List.set_cons_zero, List.set_cons_succ, List.getElem_toArray, List.getElem_cons_succ, List.getElem_cons_zero]
                      refine take_at (some 134) (i := 3) (v := ?_) rfl rfl (by kernel_rfl) (by kernel_rfl) (by kernel_rfl) (fun _ _ _ h => h) (Or.inl ⟨by kernel_rfl, ?_⟩) hHeld ?_
                      rotate_left
                      · intro wz hSw; go_simp; try (with_reducible rfl)
                      try simp only [Act.put, List.setIfInBounds_toArray, List.set_cons_zero, List.set_cons_succ, List.getElem_toArray, List.getElem_cons_succ, List.getElem_cons_zero]
                      refine take_at (some 135) (i := 4) (v := ?_) rfl rfl (by kernel_rfl) (by kernel_rfl) (by kernel_rfl) (fun _ _ _ h => h) (Or.inl ⟨by kernel_rfl, ?_⟩) hHeld ?_
                      rotate_left
                      · intro wz hSw; go_simp; try (with_reducible rfl)
                      try simp only [Act.put, List.setIfInBounds_toArray, List.set_cons_zero, List.set_cons_succ, List.getElem_toArray, List.getElem_cons_succ, List.getElem_cons_zero]
                      refine take_at (some 136) (i := 5) (v := ?_) rfl rfl (by kernel_rfl) (by kernel_rfl) (by kernel_rfl) (fun _ _ _ h => h) (Or.inl ⟨by kernel_rfl, ?_⟩) hHeld ?_
                      rotate_left
                      · intro wz hSw; have d2 : wz.cell? ⟨db, 2, none⟩ = some (.slice A6 M c6) := (HBK.out.below hSw HBK.out.lt).cell 2; go_simp; try (with_reducible rfl)
                      try simp only [Act.put, List.setIfInBounds_toArray, List.set_cons_zero, List.set_cons_succ, List.getElem_toArray, List.getElem_cons_succ, List.getElem_cons_zero]
                      refine take_at (some 137) (i := 6) (v := ?_) rfl rfl (by kernel_rfl) (by kernel_rfl) (by kernel_rfl) (fun _ _ _ h => h) (Or.inl ⟨by kernel_rfl, ?_⟩) hHeld ?_
                      rotate_left
                      · intro wz hSw; go_simp; try (with_reducible rfl)
                      try simp only [Act.put, List.setIfInBounds_toArray, List.set_cons_zero, List.set_cons_succ, List.getElem_toArray, List.getElem_cons_succ, List.getElem_cons_zero]
                      refine wpAnyH_ready (rs := [1]) (by kernel_rfl) (by simp) (AllReadyH.cons rfl (fun K hK => ?_) AllReadyH.nil)
                      rw [if_pos (by kernel_rfl)]
                      go_simp
                      refine (z_many (HWx20.out.z.on ((Below.refl uz.heap.size uz).drew)) M HM.out).mono ?_
                      rintro e y1 ⟨rfl, hb1⟩
                      try dsimp only
                      refine hK.out _ _ (((Below.refl uz.heap.size uz).drew).trans (hb1.mono ((Below.refl uz.heap.size uz).drew).size)) (fun hHeld => ?_)
                      try simp only [Act.put, List.setIfInBounds_toArray, List.set_cons_zero, List.set_cons_succ, List.getElem_toArray, List.getElem_cons_succ, List.getElem_cons_zero]
                      refine take_at (some 138) (i := 7) (v := ?_) rfl rfl (by kernel_rfl) (by kernel_rfl) (by kernel_rfl) (fun _ _ _ h => h) (Or.inl ⟨by kernel_rfl, ?_⟩) hHeld ?_
                      rotate_left
                      · intro wz hSw; go_simp; try (with_reducible rfl)
                      try simp only [Act.put, List.setIfInBounds_toArray, List.set_cons_zero, List.set_cons_succ, List.getElem_toArray, List.getElem_cons_succ, List.getElem_cons_zero]
                      refine wpAnyH_done (by kernel_rfl) ?_ _
                      have hbb := ((Below.refl uz.heap.size uz).drew).trans (hb1.mono ((Below.refl uz.heap.size uz).drew).size)
                      have HW9 := Lib.hid (HWx20.out.on hbb)
                      have HX9 := Lib.hid (HXx20.out.on hbb)
                      clear hb1 hbb hHeld
                      go_wp2_with fail
                      go_roundw
                      case rel => exact ⟨i + 1, m, b2, L, H5, G5, A1, c1, by omega, rfl, by go_num, HW9, HX9, HE2⟩
                      case measure => simp [intOf] <;> omega
            · rw [if_pos (by kernel_rfl)]
              go_simp
              try dsimp only
              obtain ⟨w2, hw5⟩ : ∃ wq, w1.alloc (.cells #[.int .i64 0, .string ⟨#[]⟩, .string ⟨#[]⟩, .int .i64 0] 31) = wq := ⟨_, rfl⟩
              obtain ⟨gx, hgw⟩ : ∃ gq, w1.heap.size = gq := ⟨_, rfl⟩
              have hg2 : Bz w2 (H ++ G) gx 31 (pcs zeroPs) := by rw [← hw5, ← hgw]; exact Bz.new hw1.hi _ _
              have hgW : W.heap.size ≤ gx := by rw [← hgw]; exact hw1.z.l.size
              have hbel : Below w1.heap.size w1 w2 := by rw [← hw5]; exact (Below.refl _ _).alloc (Nat.le_refl _) _
              have hw2 := hw1.on hbel
              have hl2 := hl1.on hbel
              have hk2 := hk1.on hbel
              try rw [hw5]
              try rw [hgw]
              clear hw5 hgw hbel
              refine hK.out _ _ hk2.b (fun hHeld => ?_)
              try simp only [Act.put, List.setIfInBounds_toArray, List.set_cons_zero, List.set_cons_succ, List.getElem_toArray, List.getElem_cons_succ, List.getElem_cons_zero]
              refine wpAnyH_ready (rs := [6]) (by kernel_rfl) (by simp) (AllReadyH.cons rfl (fun K hK => ?_) (AllReadyH.nil))
              · rw [if_pos (by kernel_rfl)]
                go_simp
                refine (z_redeem hw2.z HE.out.2.2.2.1 S og ⟨pv, pn, pt, pe⟩ er b2 HR.out HSZ.out).mono ?_
                rintro e w3 ⟨H5, rfl, h1, h2⟩
                try dsimp only
                have hw3 := hw2.left h2 h1
                have hl3 := hl2.step (h2.left G)
                have hk3 := hk2.step (h2.left G)
                have hg3 := hg2.step (h2.left G)
                clear h1 h2
                refine hK.out _ _ hk3.b (fun hHeld => ?_)
                try simp only [Act.put, List.setIfInBounds_toArray, List.set_cons_zero, List.set_cons_succ, List.getElem_toArray, List.getElem_cons_succ, List.getElem_cons_zero]
                refine take_at (some 88) (i := 7) (v := ?_) rfl rfl (by kernel_rfl) (by kernel_rfl) (by kernel_rfl) (fun _ _ _ h => h) (Or.inl ⟨by kernel_rfl, ?_⟩) hHeld ?_
                rotate_left
                · intro wz hSw; go_simp; try (with_reducible rfl)
                try simp only [Act.put, List.setIfInBounds_toArray, List.set_cons_zero, List.set_cons_succ, List.getElem_toArray, List.getElem_cons_succ, List.getElem_cons_zero]
                refine take_at (some 96) (i := 8) (v := ?_) rfl rfl (by kernel_rfl) (by kernel_rfl) (by kernel_rfl) (fun _ _ _ h => h) (Or.inl ⟨by kernel_rfl, ?_⟩) hHeld ?_
                rotate_left
                · intro wz hSw; go_simp; try (with_reducible rfl)
                try simp only [Act.put, List.setIfInBounds_toArray, List.set_cons_zero, List.set_cons_succ, List.getElem_toArray, List.getElem_cons_succ, List.getElem_cons_zero]
                refine take_at (some 97) (i := 9) (v := ?_) rfl rfl (by kernel_rfl) (by kernel_rfl) (by kernel_rfl) (fun _ _ _ h => h) (Or.inl ⟨by kernel_rfl, ?_⟩) hHeld ?_
                rotate_left
                · intro wz hSw; go_simp; try (with_reducible rfl)
                try simp only [Act.put, List.setIfInBounds_toArray, List.set_cons_zero, List.set_cons_succ, List.getElem_toArray, List.getElem_cons_succ, List.getElem_cons_zero]
                have z0 : w3.cell? ⟨gx, 0, none⟩ = some (.int .i64 0) := hg3.b.cell 0
                have z1 : w3.cell? ⟨gx, 1, none⟩ = some (.string ⟨#[]⟩) := hg3.b.cell 1
                have z2 : w3.cell? ⟨gx, 2, none⟩ = some (.string ⟨#[]⟩) := hg3.b.cell 2
                have z3 : w3.cell? ⟨gx, 3, none⟩ = some (.int .i64 0) := hg3.b.cell 3
                have f0 := hg3.b.frozen 0
                have f1 := hg3.b.frozen 1
                have f2 := hg3.b.frozen 2
                have f3 := hg3.b.frozen 3
                have htu := tu_set4 hg3 hgW ⟨pv, pn, pt, pe⟩
                obtain ⟨wx, hwx⟩ : ∃ wx, set4 w3 gx ⟨pv, pn, pt, pe⟩ = wx := ⟨_, rfl⟩
                have hww := hw3.tu htu
                have hll := htu.lr hl3 (by decide)
                have hkk := htu.bz hk3 (by decide)
                have hgg : Bz wx (H5 ++ G) gx 31 (pcs ⟨pv, pn, pt, pe⟩) := by rw [← hwx]; exact ⟨hg3.b.set4 ⟨pv, pn, pt, pe⟩, hg3.n⟩
                rw [hwx] at hww hll hkk
                refine wpAnyH_ready (rs := [11]) (by kernel_rfl) (by simp) (AllReadyH.cons rfl (fun K hK => ?_) AllReadyH.nil)
                rw [if_pos (by kernel_rfl)]
                go_simp
                simp only [set4] at hwx
                try rw [hwx]
                refine hK.out _ _ hkk.b (fun hHeld => ?_)
                try simp only [Act.put, List.setIfInBounds_toArray, List.set_cons_zero, List.set_cons_succ, List.getElem_toArray, List.getElem_cons_succ, List.getElem_cons_zero]
                refine take_at (some 12) (i := 12) (v := ?_) rfl rfl (by kernel_rfl) (by kernel_rfl) (by kernel_rfl) (fun _ _ _ h => h) (Or.inl ⟨by kernel_rfl, ?_⟩) hHeld ?_
                rotate_left
                · intro wz hSw; go_simp; try (with_reducible rfl)
                try simp only [Act.put, List.setIfInBounds_toArray, List.set_cons_zero, List.set_cons_succ, List.getElem_toArray, List.getElem_cons_succ, List.getElem_cons_zero]
                refine wpAnyH_done (by kernel_rfl) ?_ _
                have HWx19 := Lib.hid hww
                have HXx19 := Lib.hid hll
                have HBx19 := Lib.hid hkk
                have HGx19 := Lib.hid hgg
                clear hHeld hwx htu hww hll hkk hgg hgW z0 z1 z2 z3 f0 f1 f2 f3 hw0 hl0 hk0 hw1 hl1 hk1 hw2 hl2 hk2 hw3 hl3 hk3  
                obtain ⟨ux, hux⟩ : ∃ q, wx = q := ⟨_, rfl⟩
                rw [hux] at HWx19 HXx19 HBx19 HGx19 ⊢
                clear hux
                obtain ⟨gy, hgy⟩ : ∃ q, gx = q := ⟨_, rfl⟩
                rw [hgy] at HGx19 ⊢
                clear hgy
                go_upto_region 20 with fail
                try simp only [List.cons_append, List.nil_append]
                refine wp_region_held_drew (S := fun wz => Bk wz kb 33 #[.int .i64 2, .int .i64 ov, .string on, .string ot, .int .i64 oe, .string od, .int .i64 oa, .string ox, .string og]) (by kernel_rfl) (HBx19.out.b.below (show Below ux.heap.size ux ux.drew from (Below.refl _ _).drew) HBx19.out.b.lt) (fun hHeld => ?_)
                refine take_at (some 99) (i := 0) (v := ?_) rfl rfl (by kernel_rfl) (by kernel_rfl) (by kernel_rfl) (fun _ _ _ h => h) (Or.inl ⟨by kernel_rfl, ?_⟩) hHeld ?_
                rotate_left
                · intro wz hSw; go_simp; try (with_reducible rfl)
                try simp only [Act.put, List.setIfInBounds_toArray, List.set_cons_zero, List.set_cons_succ, List.getElem_toArray, List.getElem_cons_succ, List.getElem_cons_zero]
                refine take_at (some 100) (i := 1) (v := ?_) rfl rfl (by kernel_rfl) (by kernel_rfl) (by kernel_rfl) (fun _ _ _ h => h) (Or.inl ⟨by kernel_rfl, ?_⟩) hHeld ?_
                rotate_left
                · intro wz hSw; have q0 : wz.cell? ⟨kb, 0, none⟩ = some (.int .i64 2) := hSw.cell 0; have q1 : wz.cell? ⟨kb, 1, none⟩ = some (.int .i64 ov) := hSw.cell 1; have q2 : wz.cell? ⟨kb, 2, none⟩ = some (.string on) := hSw.cell 2; have q3 : wz.cell? ⟨kb, 3, none⟩ = some (.string ot) := hSw.cell 3; have q4 : wz.cell? ⟨kb, 4, none⟩ = some (.int .i64 oe) := hSw.cell 4; have q5 : wz.cell? ⟨kb, 5, none⟩ = some (.string od) := hSw.cell 5; have q6 : wz.cell? ⟨kb, 6, none⟩ = some (.int .i64 oa) := hSw.cell 6; have q7 : wz.cell? ⟨kb, 7, none⟩ = some (.string ox) := hSw.cell 7; have q8 : wz.cell? ⟨kb, 8, none⟩ = some (.string og) := hSw.cell 8; go_simp; try (with_reducible rfl)
                try simp only [Act.put, List.setIfInBounds_toArray, List.set_cons_zero, List.set_cons_succ, List.getElem_toArray, List.getElem_cons_succ, List.getElem_cons_zero]
                refine take_at (some 101) (i := 2) (v := ?_) rfl rfl (by kernel_rfl) (by kernel_rfl) (by kernel_rfl) (fun _ _ _ h => h) (Or.inl ⟨by kernel_rfl, ?_⟩) hHeld ?_
                rotate_left
                · intro wz hSw; go_simp; try (with_reducible rfl)
                try simp only [Act.put, List.setIfInBounds_toArray, List.set_cons_zero, List.set_cons_succ, List.getElem_toArray, List.getElem_cons_succ, List.getElem_cons_zero]
                refine take_at (some 103) (i := 4) (v := ?_) rfl rfl (by kernel_rfl) (by kernel_rfl) (by kernel_rfl) (fun _ _ _ h => h) (Or.inl ⟨by kernel_rfl, ?_⟩) hHeld ?_
                rotate_left
                · intro wz hSw; go_simp; try (with_reducible rfl)
                try simp only [Act.put, List.setIfInBounds_toArray, List.set_cons_zero, List.set_cons_succ, List.getElem_toArray, List.getElem_cons_succ, List.getElem_cons_zero]
                refine take_at (some 104) (i := 5) (v := ?_) rfl rfl (by kernel_rfl) (by kernel_rfl) (by kernel_rfl) (fun _ _ _ h => h) (Or.inl ⟨by kernel_rfl, ?_⟩) hHeld ?_
                rotate_left
                · intro wz hSw; have q0 : wz.cell? ⟨kb, 0, none⟩ = some (.int .i64 2) := hSw.cell 0; have q1 : wz.cell? ⟨kb, 1, none⟩ = some (.int .i64 ov) := hSw.cell 1; have q2 : wz.cell? ⟨kb, 2, none⟩ = some (.string on) := hSw.cell 2; have q3 : wz.cell? ⟨kb, 3, none⟩ = some (.string ot) := hSw.cell 3; have q4 : wz.cell? ⟨kb, 4, none⟩ = some (.int .i64 oe) := hSw.cell 4; have q5 : wz.cell? ⟨kb, 5, none⟩ = some (.string od) := hSw.cell 5; have q6 : wz.cell? ⟨kb, 6, none⟩ = some (.int .i64 oa) := hSw.cell 6; have q7 : wz.cell? ⟨kb, 7, none⟩ = some (.string ox) := hSw.cell 7; have q8 : wz.cell? ⟨kb, 8, none⟩ = some (.string og) := hSw.cell 8; go_simp; try (with_reducible rfl)
                try simp only [Act.put, List.setIfInBounds_toArray, List.set_cons_zero, List.set_cons_succ, List.getElem_toArray, List.getElem_cons_succ, List.getElem_cons_zero]
                obtain ⟨w0, hwd⟩ : ∃ wq, ux.drew = wq := ⟨_, rfl⟩
                have hb0 : Below ux.heap.size ux w0 := by rw [← hwd]; exact (Below.refl _ _).drew
                have hw0 := HWx19.out.on hb0
                have hl0 := HXx19.out.on hb0
                have hk0 := HBx19.out.on hb0
                have hy0 := HGx19.out.on hb0
                try rw [hwd]
                clear hwd hb0
                refine wpAnyH_ready (rs := [3, 10]) (by kernel_rfl) (by simp) (AllReadyH.cons rfl (fun K hK => ?_) (AllReadyH.cons rfl (fun K hK => ?_) (AllReadyH.nil)))
                · rw [if_pos (by kernel_rfl)]
                  go_simp
                  refine (show Calls Tryd.prog 14 #[.agg #[.int .i64 2, .int .i64 ov, .string on, .string ot, .int .i64 oe, .string od, .int .i64 oa, .string ox, .string og], .slice A1 m c1] w0 _ from tshown_ok ⟨2, ⟨ov, on, ot, oe⟩, od, oa, ox, og⟩ A1 L m c1 w0 (Ow.rw_ (fun _ => rfl) hl0.o) HE.out.1 S HSS.out).mono ?_
                  rintro e w1 ⟨rfl, hb⟩
                  try dsimp only
                  have hw1 := hw0.on hb
                  have hl1 := hl0.on hb
                  have hk1 := hk0.on hb
                  have hy1 := hy0.on hb
                  clear hb
                  refine hK.out _ _ hk1.b (fun hHeld => ?_)
                  try simp only [Act.put, List.setIfInBounds_toArray, List.set_cons_zero, List.set_cons_succ, List.getElem_toArray, List.getElem_cons_succ, List.getElem_cons_zero]
                  refine wpAnyH_ready (rs := [6, 10]) (by kernel_rfl) (by simp) (AllReadyH.cons rfl (fun K hK => ?_) (AllReadyH.cons rfl (fun K hK => ?_) (AllReadyH.nil)))
                  · rw [if_pos (by kernel_rfl)]
                    go_simp
                    refine (r_redeem hw1.d HE.out.2.2.2.1 S og ⟨pv, pn, pt, pe⟩ er b2 HR.out).mono ?_
                    rintro e w2 ⟨G5, rfl, h1, h2⟩
                    try dsimp only
                    have hw2 := hw1.right h2 h1
                    have hl2 := hl1.step (h2.right H5)
                    have hk2 := hk1.step (h2.right H5)
                    have hy2 := hy1.step (h2.right H5)
                    clear h1 h2
                    refine hK.out _ _ hk2.b (fun hHeld => ?_)
                    try simp only [Act.put, List.setIfInBounds_toArray, List.set_cons_zero, List.set_cons_succ, List.getElem_toArray, List.getElem_cons_succ, List.getElem_cons_zero]
                    refine take_at (some 98) (i := 7) (v := ?_) rfl rfl (by kernel_rfl) (by kernel_rfl) (by kernel_rfl) (fun _ _ _ h => h) (Or.inl ⟨by kernel_rfl, ?_⟩) hHeld ?_
                    rotate_left
                    · intro wz hSw; go_simp; try (with_reducible rfl)
                    try simp only [Act.put, List.setIfInBounds_toArray, List.set_cons_zero, List.set_cons_succ, List.getElem_toArray, List.getElem_cons_succ, List.getElem_cons_zero]
                    refine take_at (some 106) (i := 8) (v := ?_) rfl rfl (by kernel_rfl) (by kernel_rfl) (by kernel_rfl) (fun _ _ _ h => h) (Or.inl ⟨by kernel_rfl, ?_⟩) hHeld ?_
                    rotate_left
                    · intro wz hSw; go_simp; try (with_reducible rfl)
                    try simp only [Act.put, List.setIfInBounds_toArray, List.set_cons_zero, List.set_cons_succ, List.getElem_toArray, List.getElem_cons_succ, List.getElem_cons_zero]
                    refine take_at (some 107) (i := 9) (v := ?_) rfl rfl (by kernel_rfl) (by kernel_rfl) (by kernel_rfl) (fun _ _ _ h => h) (Or.inl ⟨by kernel_rfl, ?_⟩) hHeld ?_
                    rotate_left
                    · intro wz hSw; go_simp; try (with_reducible rfl)
                    try simp only [Act.put, List.setIfInBounds_toArray, List.set_cons_zero, List.set_cons_succ, List.getElem_toArray, List.getElem_cons_succ, List.getElem_cons_zero]
                    refine wpAnyH_ready (rs := [10]) (by kernel_rfl) (by simp) (AllReadyH.cons rfl (fun K hK => ?_) (AllReadyH.nil))
                    · rw [if_pos (by kernel_rfl)]
                      go_simp
                      try dsimp only
                      obtain ⟨w3, hw5⟩ : ∃ wq, w2.alloc (.cells #[.int .i64 0, .string ⟨#[]⟩, .string ⟨#[]⟩, .int .i64 0] 31) = wq := ⟨_, rfl⟩
                      obtain ⟨gx, hgw⟩ : ∃ gq, w2.heap.size = gq := ⟨_, rfl⟩
                      have hg3 : Bz w3 (H5 ++ G5) gx 31 (pcs zeroPs) := by rw [← hw5, ← hgw]; exact Bz.new hw2.hi _ _
                      have hgW : W.heap.size ≤ gx := by rw [← hgw]; exact hw2.z.l.size
                      have hneq : gy ≠ gx := fun e => by have := hy2.b.lt; omega
                      have hbel : Below w2.heap.size w2 w3 := by rw [← hw5]; exact (Below.refl _ _).alloc (Nat.le_refl _) _
                      have hw3 := hw2.on hbel
                      have hl3 := hl2.on hbel
                      have hk3 := hk2.on hbel
                      have hy3 := hy2.on hbel
                      try rw [hw5]
                      try rw [hgw]
                      clear hw5 hgw hbel
                      refine hK.out _ _ hk3.b (fun hHeld => ?_)
                      try simp only [Act.put, List.setIfInBounds_toArray, List.set_cons_zero, List.set_cons_succ, List.getElem_toArray, List.getElem_cons_succ, List.getElem_cons_zero]
                      have z0 : w3.cell? ⟨gx, 0, none⟩ = some (.int .i64 0) := hg3.b.cell 0
                      have z1 : w3.cell? ⟨gx, 1, none⟩ = some (.string ⟨#[]⟩) := hg3.b.cell 1
                      have z2 : w3.cell? ⟨gx, 2, none⟩ = some (.string ⟨#[]⟩) := hg3.b.cell 2
                      have z3 : w3.cell? ⟨gx, 3, none⟩ = some (.int .i64 0) := hg3.b.cell 3
                      have f0 := hg3.b.frozen 0
                      have f1 := hg3.b.frozen 1
                      have f2 := hg3.b.frozen 2
                      have f3 := hg3.b.frozen 3
                      have htu := tu_set4 hg3 hgW ⟨pv, pn, pt, pe⟩
                      obtain ⟨wx, hwx⟩ : ∃ wx, set4 w3 gx ⟨pv, pn, pt, pe⟩ = wx := ⟨_, rfl⟩
                      have hww := hw3.tu htu
                      have hll := htu.lr hl3 (by decide)
                      have hkk := htu.bz hk3 (by decide)
                      have hgg : Bz wx (H5 ++ G5) gx 31 (pcs ⟨pv, pn, pt, pe⟩) := by rw [← hwx]; exact ⟨hg3.b.set4 ⟨pv, pn, pt, pe⟩, hg3.n⟩
                      have hyx : Bz wx (H5 ++ G5) gy 31 (pcs ⟨pv, pn, pt, pe⟩) := by rw [← hwx]; exact ⟨hy3.b.ke (ke_set4 w3 gx ⟨pv, pn, pt, pe⟩) (by simpa using hneq), hy3.n⟩
                      rw [hwx] at hww hll hkk
                      refine wpAnyH_ready (rs := [11]) (by kernel_rfl) (by simp) (AllReadyH.cons rfl (fun K hK => ?_) AllReadyH.nil)
                      rw [if_pos (by kernel_rfl)]
                      go_simp
                      simp only [set4] at hwx
                      try rw [hwx]
                      refine hK.out _ _ hkk.b (fun hHeld => ?_)
                      try simp only [Act.put, List.setIfInBounds_toArray, List.set_cons_zero, List.set_cons_succ, List.getElem_toArray, List.getElem_cons_succ, List.getElem_cons_zero]
                      refine take_at (some 14) (i := 12) (v := ?_) rfl rfl (by kernel_rfl) (by kernel_rfl) (by kernel_rfl) (fun _ _ _ h => h) (Or.inl ⟨by kernel_rfl, ?_⟩) hHeld ?_
                      rotate_left
                      · intro wz hSw; go_simp; try (with_reducible rfl)
                      try simp only [Act.put, List.setIfInBounds_toArray, List.set_cons_zero, List.set_cons_succ, List.getElem_toArray, List.getElem_cons_succ, List.getElem_cons_zero]
                      refine wpAnyH_done (by kernel_rfl) ?_ _
                      have HWx20 := Lib.hid hww
                      have HXx20 := Lib.hid hll
                      have HBx20 := Lib.hid hkk
                      have HGx20 := Lib.hid hgg
                      have HYx20 := Lib.hid hyx
                      clear hHeld hwx htu hww hll hkk hgg hgW z0 z1 z2 z3 f0 f1 f2 f3 hw0 hl0 hk0 hw1 hl1 hk1 hw2 hl2 hk2 hw3 hl3 hk3 hy0 hy1 hy2 hy3 hyx
                      obtain ⟨uz, huz⟩ : ∃ q, wx = q := ⟨_, rfl⟩
                      rw [huz] at HWx20 HXx20 HBx20 HGx20 HYx20 ⊢
                      clear huz
                      have a0 : uz.cell? ⟨gx, 0, none⟩ = some (.int .i64 pv) := HGx20.out.b.cell 0
                      have a1 : uz.cell? ⟨gx, 1, none⟩ = some (.string pn) := HGx20.out.b.cell 1
                      have a2 : uz.cell? ⟨gx, 2, none⟩ = some (.string pt) := HGx20.out.b.cell 2
                      have a3 : uz.cell? ⟨gx, 3, none⟩ = some (.int .i64 pe) := HGx20.out.b.cell 3
                      have b0 : uz.cell? ⟨gy, 0, none⟩ = some (.int .i64 pv) := HYx20.out.b.cell 0
                      have b1 : uz.cell? ⟨gy, 1, none⟩ = some (.string pn) := HYx20.out.b.cell 1
                      have b2 : uz.cell? ⟨gy, 2, none⟩ = some (.string pt) := HYx20.out.b.cell 2
                      have b3 : uz.cell? ⟨gy, 3, none⟩ = some (.int .i64 pe) := HYx20.out.b.cell 3
                      have HPE := Lib.hid (eqP_same ⟨pv, pn, pt, pe⟩)
                      have hee : (er != er) = false := by simp
                      go_upto_region 28 with (refine wpList_nep (by kernel_rfl) (.tmp 108) (.tmp 109) _ rfl ⟨pv, pn, pt, pe⟩ ⟨pv, pn, pt, pe⟩ rfl rfl ?_; rw [HPE.out])
                      clear a0 a1 a2 a3 b0 b1 b2 b3
                      have HE2 := Lib.hid (show L.length = m ∧ m ≤ i + 1 ∧ b2.se ≤ ((i + 1 : Nat) : Int) ∧ Gk b2 ∧ ∀ s ∈ L, s.size ≤ 1099511627776 from ⟨HE.out.1, by have := HE.out.2.1; omega, by rw [HSE.out]; have := HE.out.2.2.1; omega, HG2.out, HE.out.2.2.2.2⟩)
                      obtain ⟨M, hM⟩ : ∃ M, b2.l.length = M := ⟨_, rfl⟩
                      have HM := Lib.hid hM
                      obtain ⟨A6, c6, hbk, _, _⟩ := HWx20.out.d.ex
                      rw [hM] at hbk
                      have HBK := Lib.hid hbk
                      clear hM hbk
                      go_upto_region 28 with fail
                      try simp only [List.cons_append, List.nil_append]
                      refine wp_region_held_drew (S := fun wz => Below uz.heap.size uz wz) (by kernel_rfl) ((Below.refl _ _).drew) (fun hHeld => ?_)
                      refine take_at (some 131) (i := 0) (v := ?_) rfl rfl (by kernel_rfl) (by kernel_rfl) (by kernel_rfl) (fun _ _ _ h => h) (Or.inl ⟨by kernel_rfl, ?_⟩) hHeld ?_
                      rotate_left
                      · intro wz hSw; go_simp; try (with_reducible rfl)
                      try simp only [Act.put, List.setIfInBounds_toArray, List.set_cons_zero, List.set_cons_succ, List.getElem_toArray, List.getElem_cons_succ, List.getElem_cons_zero]
                      refine take_at (some 133) (i := 2) (v := ?_) rfl rfl (by kernel_rfl) (by kernel_rfl) (by kernel_rfl) (fun _ _ _ h => h) (Or.inl ⟨by kernel_rfl, ?_⟩) hHeld ?_
                      rotate_left
                      · intro wz hSw; go_simp; try (with_reducible rfl)
                      try simp only [Act.put, List.setIfInBounds_toArray, List.set_cons_zero, List.set_cons_succ, List.getElem_toArray, List.getElem_cons_succ, List.getElem_cons_zero]
                      refine take_at (some 134) (i := 3) (v := ?_) rfl rfl (by kernel_rfl) (by kernel_rfl) (by kernel_rfl) (fun _ _ _ h => h) (Or.inl ⟨by kernel_rfl, ?_⟩) hHeld ?_
                      rotate_left
                      · intro wz hSw; go_simp; try (with_reducible rfl)
                      try simp only [Act.put, List.setIfInBounds_toArray, List.set_cons_zero, List.set_cons_succ, List.getElem_toArray, List.getElem_cons_succ, List.getElem_cons_zero]
                      refine take_at (some 135) (i := 4) (v := ?_) rfl rfl (by kernel_rfl) (by kernel_rfl) (by kernel_rfl) (fun _ _ _ h => h) (Or.inl ⟨by kernel_rfl, ?_⟩) hHeld ?_
                      rotate_left
                      · intro wz hSw; go_simp; try (with_reducible rfl)
                      try simp only [Act.put, List.setIfInBounds_toArray, List.set_cons_zero, List.set_cons_succ, List.getElem_toArray, List.getElem_cons_succ, List.getElem_cons_zero]
                      refine take_at (some 136) (i := 5) (v := ?_) rfl rfl (by kernel_rfl) (by kernel_rfl) (by kernel_rfl) (fun _ _ _ h => h) (Or.inl ⟨by kernel_rfl, ?_⟩) hHeld ?_
                      rotate_left
                      · intro wz hSw; have d2 : wz.cell? ⟨db, 2, none⟩ = some (.slice A6 M c6) := (HBK.out.below hSw HBK.out.lt).cell 2; go_simp; try (with_reducible rfl)
                      try simp only [Act.put, List.setIfInBounds_toArray, List.set_cons_zero, List.set_cons_succ, List.getElem_toArray, List.getElem_cons_succ, List.getElem_cons_zero]
                      refine take_at (some 137) (i := 6) (v := ?_) rfl rfl (by kernel_rfl) (by kernel_rfl) (by kernel_rfl) (fun _ _ _ h => h) (Or.inl ⟨by kernel_rfl, ?_⟩) hHeld ?_
                      rotate_left
                      · intro wz hSw; go_simp; try (with_reducible rfl)
                      try simp only [Act.put, List.setIfInBounds_toArray, List.set_cons_zero, List.set_cons_succ, List.getElem_toArray, List.getElem_cons_succ, List.getElem_cons_zero]
                      refine wpAnyH_ready (rs := [1]) (by kernel_rfl) (by simp) (AllReadyH.cons rfl (fun K hK => ?_) AllReadyH.nil)
                      rw [if_pos (by kernel_rfl)]
                      go_simp
                      refine (z_many (HWx20.out.z.on ((Below.refl uz.heap.size uz).drew)) M HM.out).mono ?_
                      rintro e y1 ⟨rfl, hb1⟩
                      try dsimp only
                      refine hK.out _ _ (((Below.refl uz.heap.size uz).drew).trans (hb1.mono ((Below.refl uz.heap.size uz).drew).size)) (fun hHeld => ?_)
                      try simp only [Act.put, List.setIfInBounds_toArray, List.set_cons_zero, List.set_cons_succ, List.getElem_toArray, List.getElem_cons_succ, List.getElem_cons_zero]
                      refine take_at (some 138) (i := 7) (v := ?_) rfl rfl (by kernel_rfl) (by kernel_rfl) (by kernel_rfl) (fun _ _ _ h => h) (Or.inl ⟨by kernel_rfl, ?_⟩) hHeld ?_
                      rotate_left
                      · intro wz hSw; go_simp; try (with_reducible rfl)
                      try simp only [Act.put, List.setIfInBounds_toArray, List.set_cons_zero, List.set_cons_succ, List.getElem_toArray, List.getElem_cons_succ, List.getElem_cons_zero]
                      refine wpAnyH_done (by kernel_rfl) ?_ _
                      have hbb := ((Below.refl uz.heap.size uz).drew).trans (hb1.mono ((Below.refl uz.heap.size uz).drew).size)
                      have HW9 := Lib.hid (HWx20.out.on hbb)
                      have HX9 := Lib.hid (HXx20.out.on hbb)
                      clear hb1 hbb hHeld
                      go_wp2_with fail
                      go_roundw
                      case rel => exact ⟨i + 1, m, b2, L, H5, G5, A1, c1, by omega, rfl, by go_num, HW9, HX9, HE2⟩
                      case measure => simp [intOf] <;> omega
                  · rw [if_pos (by kernel_rfl)]
                    go_simp
                    try dsimp only
                    obtain ⟨w2, hw5⟩ : ∃ wq, w1.alloc (.cells #[.int .i64 0, .string ⟨#[]⟩, .string ⟨#[]⟩, .int .i64 0] 31) = wq := ⟨_, rfl⟩
                    obtain ⟨gx, hgw⟩ : ∃ gq, w1.heap.size = gq := ⟨_, rfl⟩
                    have hg2 : Bz w2 (H5 ++ G) gx 31 (pcs zeroPs) := by rw [← hw5, ← hgw]; exact Bz.new hw1.hi _ _
                    have hgW : W.heap.size ≤ gx := by rw [← hgw]; exact hw1.z.l.size
                    have hneq : gy ≠ gx := fun e => by have := hy1.b.lt; omega
                    have hbel : Below w1.heap.size w1 w2 := by rw [← hw5]; exact (Below.refl _ _).alloc (Nat.le_refl _) _
                    have hw2 := hw1.on hbel
                    have hl2 := hl1.on hbel
                    have hk2 := hk1.on hbel
                    have hy2 := hy1.on hbel
                    try rw [hw5]
                    try rw [hgw]
                    clear hw5 hgw hbel
                    refine hK.out _ _ hk2.b (fun hHeld => ?_)
                    try simp only [Act.put, List.setIfInBounds_toArray, List.set_cons_zero, List.set_cons_succ, List.getElem_toArray, List.getElem_cons_succ, List.getElem_cons_zero]
                    refine wpAnyH_ready (rs := [6]) (by kernel_rfl) (by simp) (AllReadyH.cons rfl (fun K hK => ?_) (AllReadyH.nil))
                    · rw [if_pos (by kernel_rfl)]
                      go_simp
                      refine (r_redeem hw2.d HE.out.2.2.2.1 S og ⟨pv, pn, pt, pe⟩ er b2 HR.out).mono ?_
                      rintro e w3 ⟨G5, rfl, h1, h2⟩
                      try dsimp only
                      have hw3 := hw2.right h2 h1
                      have hl3 := hl2.step (h2.right H5)
                      have hk3 := hk2.step (h2.right H5)
                      have hy3 := hy2.step (h2.right H5)
                      have hg3 := hg2.step (h2.right H5)
                      clear h1 h2
                      refine hK.out _ _ hk3.b (fun hHeld => ?_)
                      try simp only [Act.put, List.setIfInBounds_toArray, List.set_cons_zero, List.set_cons_succ, List.getElem_toArray, List.getElem_cons_succ, List.getElem_cons_zero]
                      refine take_at (some 98) (i := 7) (v := ?_) rfl rfl (by kernel_rfl) (by kernel_rfl) (by kernel_rfl) (fun _ _ _ h => h) (Or.inl ⟨by kernel_rfl, ?_⟩) hHeld ?_
                      rotate_left
                      · intro wz hSw; go_simp; try (with_reducible rfl)
                      try simp only [Act.put, List.setIfInBounds_toArray, List.set_cons_zero, List.set_cons_succ, List.getElem_toArray, List.getElem_cons_succ, List.getElem_cons_zero]
                      refine take_at (some 106) (i := 8) (v := ?_) rfl rfl (by kernel_rfl) (by kernel_rfl) (by kernel_rfl) (fun _ _ _ h => h) (Or.inl ⟨by kernel_rfl, ?_⟩) hHeld ?_
                      rotate_left
                      · intro wz hSw; go_simp; try (with_reducible rfl)
                      try simp only [Act.put, List.setIfInBounds_toArray, List.set_cons_zero, List.set_cons_succ, List.getElem_toArray, List.getElem_cons_succ, List.getElem_cons_zero]
                      refine take_at (some 107) (i := 9) (v := ?_) rfl rfl (by kernel_rfl) (by kernel_rfl) (by kernel_rfl) (fun _ _ _ h => h) (Or.inl ⟨by kernel_rfl, ?_⟩) hHeld ?_
                      rotate_left
                      · intro wz hSw; go_simp; try (with_reducible rfl)
                      try simp only [Act.put, List.setIfInBounds_toArray, List.set_cons_zero, List.set_cons_succ, List.getElem_toArray, List.getElem_cons_succ, List.getElem_cons_zero]
                      have z0 : w3.cell? ⟨gx, 0, none⟩ = some (.int .i64 0) := hg3.b.cell 0
                      have z1 : w3.cell? ⟨gx, 1, none⟩ = some (.string ⟨#[]⟩) := hg3.b.cell 1
                      have z2 : w3.cell? ⟨gx, 2, none⟩ = some (.string ⟨#[]⟩) := hg3.b.cell 2
                      have z3 : w3.cell? ⟨gx, 3, none⟩ = some (.int .i64 0) := hg3.b.cell 3
                      have f0 := hg3.b.frozen 0
                      have f1 := hg3.b.frozen 1
                      have f2 := hg3.b.frozen 2
                      have f3 := hg3.b.frozen 3
                      have htu := tu_set4 hg3 hgW ⟨pv, pn, pt, pe⟩
                      obtain ⟨wx, hwx⟩ : ∃ wx, set4 w3 gx ⟨pv, pn, pt, pe⟩ = wx := ⟨_, rfl⟩
                      have hww := hw3.tu htu
                      have hll := htu.lr hl3 (by decide)
                      have hkk := htu.bz hk3 (by decide)
                      have hgg : Bz wx (H5 ++ G5) gx 31 (pcs ⟨pv, pn, pt, pe⟩) := by rw [← hwx]; exact ⟨hg3.b.set4 ⟨pv, pn, pt, pe⟩, hg3.n⟩
                      have hyx : Bz wx (H5 ++ G5) gy 31 (pcs ⟨pv, pn, pt, pe⟩) := by rw [← hwx]; exact ⟨hy3.b.ke (ke_set4 w3 gx ⟨pv, pn, pt, pe⟩) (by simpa using hneq), hy3.n⟩
                      rw [hwx] at hww hll hkk
                      refine wpAnyH_ready (rs := [11]) (by kernel_rfl) (by simp) (AllReadyH.cons rfl (fun K hK => ?_) AllReadyH.nil)
                      rw [if_pos (by kernel_rfl)]
                      go_simp
                      simp only [set4] at hwx
                      try rw [hwx]
                      refine hK.out _ _ hkk.b (fun hHeld => ?_)
                      try simp only [Act.put, List.setIfInBounds_toArray, List.set_cons_zero, List.set_cons_succ, List.getElem_toArray, List.getElem_cons_succ, List.getElem_cons_zero]
                      refine take_at (some 14) (i := 12) (v := ?_) rfl rfl (by kernel_rfl) (by kernel_rfl) (by kernel_rfl) (fun _ _ _ h => h) (Or.inl ⟨by kernel_rfl, ?_⟩) hHeld ?_
                      rotate_left
                      · intro wz hSw; go_simp; try (with_reducible rfl)
                      try simp only [Act.put, List.setIfInBounds_toArray, List.set_cons_zero, List.set_cons_succ, List.getElem_toArray, List.getElem_cons_succ, List.getElem_cons_zero]
                      refine wpAnyH_done (by kernel_rfl) ?_ _
                      have HWx20 := Lib.hid hww
                      have HXx20 := Lib.hid hll
                      have HBx20 := Lib.hid hkk
                      have HGx20 := Lib.hid hgg
                      have HYx20 := Lib.hid hyx
                      clear hHeld hwx htu hww hll hkk hgg hgW z0 z1 z2 z3 f0 f1 f2 f3 hw0 hl0 hk0 hw1 hl1 hk1 hw2 hl2 hk2 hw3 hl3 hk3 hy0 hy1 hy2 hy3 hyx
                      obtain ⟨uz, huz⟩ : ∃ q, wx = q := ⟨_, rfl⟩
                      rw [huz] at HWx20 HXx20 HBx20 HGx20 HYx20 ⊢
                      clear huz
                      have a0 : uz.cell? ⟨gx, 0, none⟩ = some (.int .i64 pv) := HGx20.out.b.cell 0
                      have a1 : uz.cell? ⟨gx, 1, none⟩ = some (.string pn) := HGx20.out.b.cell 1
                      have a2 : uz.cell? ⟨gx, 2, none⟩ = some (.string pt) := HGx20.out.b.cell 2
                      have a3 : uz.cell? ⟨gx, 3, none⟩ = some (.int .i64 pe) := HGx20.out.b.cell 3
                      have b0 : uz.cell? ⟨gy, 0, none⟩ = some (.int .i64 pv) := HYx20.out.b.cell 0
                      have b1 : uz.cell? ⟨gy, 1, none⟩ = some (.string pn) := HYx20.out.b.cell 1
                      have b2 : uz.cell? ⟨gy, 2, none⟩ = some (.string pt) := HYx20.out.b.cell 2
                      have b3 : uz.cell? ⟨gy, 3, none⟩ = some (.int .i64 pe) := HYx20.out.b.cell 3
                      have HPE := Lib.hid (eqP_same ⟨pv, pn, pt, pe⟩)
                      have hee : (er != er) = false := by simp
                      go_upto_region 28 with (refine wpList_nep (by kernel_rfl) (.tmp 108) (.tmp 109) _ rfl ⟨pv, pn, pt, pe⟩ ⟨pv, pn, pt, pe⟩ rfl rfl ?_; rw [HPE.out])
                      clear a0 a1 a2 a3 b0 b1 b2 b3
                      have HE2 := Lib.hid (show L.length = m ∧ m ≤ i + 1 ∧ b2.se ≤ ((i + 1 : Nat) : Int) ∧ Gk b2 ∧ ∀ s ∈ L, s.size ≤ 1099511627776 from ⟨HE.out.1, by have := HE.out.2.1; omega, by rw [HSE.out]; have := HE.out.2.2.1; omega, HG2.out, HE.out.2.2.2.2⟩)
                      obtain ⟨M, hM⟩ : ∃ M, b2.l.length = M := ⟨_, rfl⟩
                      have HM := Lib.hid hM
                      obtain ⟨A6, c6, hbk, _, _⟩ := HWx20.out.d.ex
                      rw [hM] at hbk
                      have HBK := Lib.hid hbk
                      clear hM hbk
                      go_upto_region 28 with fail
                      try simp only [List.cons_append, List.nil_append]
                      refine wp_region_held_drew (S := fun wz => Below uz.heap.size uz wz) (by kernel_rfl) ((Below.refl _ _).drew) (fun hHeld => ?_)
                      refine take_at (some 131) (i := 0) (v := ?_) rfl rfl (by kernel_rfl) (by kernel_rfl) (by kernel_rfl) (fun _ _ _ h => h) (Or.inl ⟨by kernel_rfl, ?_⟩) hHeld ?_
                      rotate_left
                      · intro wz hSw; go_simp; try (with_reducible rfl)
                      try simp only [Act.put, List.setIfInBounds_toArray, List.set_cons_zero, List.set_cons_succ, List.getElem_toArray, List.getElem_cons_succ, List.getElem_cons_zero]
                      refine take_at (some 133) (i := 2) (v := ?_) rfl rfl (by kernel_rfl) (by kernel_rfl) (by kernel_rfl) (fun _ _ _ h => h) (Or.inl ⟨by kernel_rfl, ?_⟩) hHeld ?_
                      rotate_left
                      · intro wz hSw; go_simp; try (with_reducible rfl)
                      try simp only [Act.put, List.setIfInBounds_toArray, List.set_cons_zero, List.set_cons_succ, List.getElem_toArray, List.getElem_cons_succ, List.getElem_cons_zero]
                      refine take_at (some 134) (i := 3) (v := ?_) rfl rfl (by kernel_rfl) (by kernel_rfl) (by kernel_rfl) (fun _ _ _ h => h) (Or.inl ⟨by kernel_rfl, ?_⟩) hHeld ?_
                      rotate_left
                      · intro wz hSw; go_simp; try (with_reducible rfl)
                      try simp only [Act.put, List.setIfInBounds_toArray, List.set_cons_zero, List.set_cons_succ, List.getElem_toArray, List.getElem_cons_succ, List.getElem_cons_zero]
                      refine take_at (some 135) (i := 4) (v := ?_) rfl rfl (by kernel_rfl) (by kernel_rfl) (by kernel_rfl) (fun _ _ _ h => h) (Or.inl ⟨by kernel_rfl, ?_⟩) hHeld ?_
                      rotate_left
                      · intro wz hSw; go_simp; try (with_reducible rfl)
                      try simp only [Act.put, List.setIfInBounds_toArray, List.set_cons_zero, List.set_cons_succ, List.getElem_toArray, List.getElem_cons_succ, List.getElem_cons_zero]
                      refine take_at (some 136) (i := 5) (v := ?_) rfl rfl (by kernel_rfl) (by kernel_rfl) (by kernel_rfl) (fun _ _ _ h => h) (Or.inl ⟨by kernel_rfl, ?_⟩) hHeld ?_
                      rotate_left
                      · intro wz hSw; have d2 : wz.cell? ⟨db, 2, none⟩ = some (.slice A6 M c6) := (HBK.out.below hSw HBK.out.lt).cell 2; go_simp; try (with_reducible rfl)
                      try simp only [Act.put, List.setIfInBounds_toArray, List.set_cons_zero, List.set_cons_succ, List.getElem_toArray, List.getElem_cons_succ, List.getElem_cons_zero]
                      refine take_at (some 137) (i := 6) (v := ?_) rfl rfl (by kernel_rfl) (by kernel_rfl) (by kernel_rfl) (fun _ _ _ h => h) (Or.inl ⟨by kernel_rfl, ?_⟩) hHeld ?_
                      rotate_left
                      · intro wz hSw; go_simp; try (with_reducible rfl)
                      try simp only [Act.put, List.setIfInBounds_toArray, List.set_cons_zero, List.set_cons_succ, List.getElem_toArray, List.getElem_cons_succ, List.getElem_cons_zero]
                      refine wpAnyH_ready (rs := [1]) (by kernel_rfl) (by simp) (AllReadyH.cons rfl (fun K hK => ?_) AllReadyH.nil)
                      rw [if_pos (by kernel_rfl)]
                      go_simp
                      refine (z_many (HWx20.out.z.on ((Below.refl uz.heap.size uz).drew)) M HM.out).mono ?_
                      rintro e y1 ⟨rfl, hb1⟩
                      try dsimp only
                      refine hK.out _ _ (((Below.refl uz.heap.size uz).drew).trans (hb1.mono ((Below.refl uz.heap.size uz).drew).size)) (fun hHeld => ?_)
                      try simp only [Act.put, List.setIfInBounds_toArray, List.set_cons_zero, List.set_cons_succ, List.getElem_toArray, List.getElem_cons_succ, List.getElem_cons_zero]
                      refine take_at (some 138) (i := 7) (v := ?_) rfl rfl (by kernel_rfl) (by kernel_rfl) (by kernel_rfl) (fun _ _ _ h => h) (Or.inl ⟨by kernel_rfl, ?_⟩) hHeld ?_
                      rotate_left
                      · intro wz hSw; go_simp; try (with_reducible rfl)
                      try simp only [Act.put, List.setIfInBounds_toArray, List.set_cons_zero, List.set_cons_succ, List.getElem_toArray, List.getElem_cons_succ, List.getElem_cons_zero]
                      refine wpAnyH_done (by kernel_rfl) ?_ _
                      have hbb := ((Below.refl uz.heap.size uz).drew).trans (hb1.mono ((Below.refl uz.heap.size uz).drew).size)
                      have HW9 := Lib.hid (HWx20.out.on hbb)
                      have HX9 := Lib.hid (HXx20.out.on hbb)
                      clear hb1 hbb hHeld
                      go_wp2_with fail
                      go_roundw
                      case rel => exact ⟨i + 1, m, b2, L, H5, G5, A1, c1, by omega, rfl, by go_num, HW9, HX9, HE2⟩
                      case measure => simp [intOf] <;> omega
                · rw [if_pos (by kernel_rfl)]
                  go_simp
                  try dsimp only
                  obtain ⟨w1, hw5⟩ : ∃ wq, w0.alloc (.cells #[.int .i64 0, .string ⟨#[]⟩, .string ⟨#[]⟩, .int .i64 0] 31) = wq := ⟨_, rfl⟩
                  obtain ⟨gx, hgw⟩ : ∃ gq, w0.heap.size = gq := ⟨_, rfl⟩
                  have hg1 : Bz w1 (H5 ++ G) gx 31 (pcs zeroPs) := by rw [← hw5, ← hgw]; exact Bz.new hw0.hi _ _
                  have hgW : W.heap.size ≤ gx := by rw [← hgw]; exact hw0.z.l.size
                  have hneq : gy ≠ gx := fun e => by have := hy0.b.lt; omega
                  have hbel : Below w0.heap.size w0 w1 := by rw [← hw5]; exact (Below.refl _ _).alloc (Nat.le_refl _) _
                  have hw1 := hw0.on hbel
                  have hl1 := hl0.on hbel
                  have hk1 := hk0.on hbel
                  have hy1 := hy0.on hbel
                  try rw [hw5]
                  try rw [hgw]
                  clear hw5 hgw hbel
                  refine hK.out _ _ hk1.b (fun hHeld => ?_)
                  try simp only [Act.put, List.setIfInBounds_toArray, List.set_cons_zero, List.set_cons_succ, List.getElem_toArray, List.getElem_cons_succ, List.getElem_cons_zero]
                  refine wpAnyH_ready (rs := [3]) (by kernel_rfl) (by simp) (AllReadyH.cons rfl (fun K hK => ?_) (AllReadyH.nil))
                  · rw [if_pos (by kernel_rfl)]
                    go_simp
                    refine (show Calls Tryd.prog 14 #[.agg #[.int .i64 2, .int .i64 ov, .string on, .string ot, .int .i64 oe, .string od, .int .i64 oa, .string ox, .string og], .slice A1 m c1] w1 _ from tshown_ok ⟨2, ⟨ov, on, ot, oe⟩, od, oa, ox, og⟩ A1 L m c1 w1 (Ow.rw_ (fun _ => rfl) hl1.o) HE.out.1 S HSS.out).mono ?_
                    rintro e w2 ⟨rfl, hb⟩
                    try dsimp only
                    have hw2 := hw1.on hb
                    have hl2 := hl1.on hb
                    have hk2 := hk1.on hb
                    have hy2 := hy1.on hb
                    have hg2 := hg1.on hb
                    clear hb
                    refine hK.out _ _ hk2.b (fun hHeld => ?_)
                    try simp only [Act.put, List.setIfInBounds_toArray, List.set_cons_zero, List.set_cons_succ, List.getElem_toArray, List.getElem_cons_succ, List.getElem_cons_zero]
                    refine wpAnyH_ready (rs := [6]) (by kernel_rfl) (by simp) (AllReadyH.cons rfl (fun K hK => ?_) (AllReadyH.nil))
                    · rw [if_pos (by kernel_rfl)]
                      go_simp
                      refine (r_redeem hw2.d HE.out.2.2.2.1 S og ⟨pv, pn, pt, pe⟩ er b2 HR.out).mono ?_
                      rintro e w3 ⟨G5, rfl, h1, h2⟩
                      try dsimp only
                      have hw3 := hw2.right h2 h1
                      have hl3 := hl2.step (h2.right H5)
                      have hk3 := hk2.step (h2.right H5)
                      have hy3 := hy2.step (h2.right H5)
                      have hg3 := hg2.step (h2.right H5)
                      clear h1 h2
                      refine hK.out _ _ hk3.b (fun hHeld => ?_)
                      try simp only [Act.put, List.setIfInBounds_toArray, List.set_cons_zero, List.set_cons_succ, List.getElem_toArray, List.getElem_cons_succ, List.getElem_cons_zero]
                      refine take_at (some 98) (i := 7) (v := ?_) rfl rfl (by kernel_rfl) (by kernel_rfl) (by kernel_rfl) (fun _ _ _ h => h) (Or.inl ⟨by kernel_rfl, ?_⟩) hHeld ?_
                      rotate_left
                      · intro wz hSw; go_simp; try (with_reducible rfl)
                      try simp only [Act.put, List.setIfInBounds_toArray, List.set_cons_zero, List.set_cons_succ, List.getElem_toArray, List.getElem_cons_succ, List.getElem_cons_zero]
                      refine take_at (some 106) (i := 8) (v := ?_) rfl rfl (by kernel_rfl) (by kernel_rfl) (by kernel_rfl) (fun _ _ _ h => h) (Or.inl ⟨by kernel_rfl, ?_⟩) hHeld ?_
                      rotate_left
                      · intro wz hSw; go_simp; try (with_reducible rfl)
                      try simp only [Act.put, List.setIfInBounds_toArray, List.set_cons_zero, List.set_cons_succ, List.getElem_toArray, List.getElem_cons_succ, List.getElem_cons_zero]
                      refine take_at (some 107) (i := 9) (v := ?_) rfl rfl (by kernel_rfl) (by kernel_rfl) (by kernel_rfl) (fun _ _ _ h => h) (Or.inl ⟨by kernel_rfl, ?_⟩) hHeld ?_
                      rotate_left
                      · intro wz hSw; go_simp; try (with_reducible rfl)
                      try simp only [Act.put, List.setIfInBounds_toArray, List.set_cons_zero, List.set_cons_succ, List.getElem_toArray, List.getElem_cons_succ, List.getElem_cons_zero]
                      have z0 : w3.cell? ⟨gx, 0, none⟩ = some (.int .i64 0) := hg3.b.cell 0
                      have z1 : w3.cell? ⟨gx, 1, none⟩ = some (.string ⟨#[]⟩) := hg3.b.cell 1
                      have z2 : w3.cell? ⟨gx, 2, none⟩ = some (.string ⟨#[]⟩) := hg3.b.cell 2
                      have z3 : w3.cell? ⟨gx, 3, none⟩ = some (.int .i64 0) := hg3.b.cell 3
                      have f0 := hg3.b.frozen 0
                      have f1 := hg3.b.frozen 1
                      have f2 := hg3.b.frozen 2
                      have f3 := hg3.b.frozen 3
                      have htu := tu_set4 hg3 hgW ⟨pv, pn, pt, pe⟩
                      obtain ⟨wx, hwx⟩ : ∃ wx, set4 w3 gx ⟨pv, pn, pt, pe⟩ = wx := ⟨_, rfl⟩
                      have hww := hw3.tu htu
                      have hll := htu.lr hl3 (by decide)
                      have hkk := htu.bz hk3 (by decide)
                      have hgg : Bz wx (H5 ++ G5) gx 31 (pcs ⟨pv, pn, pt, pe⟩) := by rw [← hwx]; exact ⟨hg3.b.set4 ⟨pv, pn, pt, pe⟩, hg3.n⟩
                      have hyx : Bz wx (H5 ++ G5) gy 31 (pcs ⟨pv, pn, pt, pe⟩) := by rw [← hwx]; exact ⟨hy3.b.ke (ke_set4 w3 gx ⟨pv, pn, pt, pe⟩) (by simpa using hneq), hy3.n⟩
                      rw [hwx] at hww hll hkk
                      refine wpAnyH_ready (rs := [11]) (by kernel_rfl) (by simp) (AllReadyH.cons rfl (fun K hK => ?_) AllReadyH.nil)
                      rw [if_pos (by kernel_rfl)]
                      go_simp
                      simp only [set4] at hwx
                      try rw [hwx]
                      refine hK.out _ _ hkk.b (fun hHeld => ?_)
                      try simp only [Act.put, List.setIfInBounds_toArray, List.set_cons_zero, List.set_cons_succ, List.getElem_toArray, List.getElem_cons_succ, List.getElem_cons_zero]
                      refine take_at (some 14) (i := 12) (v := ?_) rfl rfl (by kernel_rfl) (by kernel_rfl) (by kernel_rfl) (fun _ _ _ h => h) (Or.inl ⟨by kernel_rfl, ?_⟩) hHeld ?_
                      rotate_left
                      · intro wz hSw; go_simp; try (with_reducible rfl)
                      try simp only [Act.put, List.setIfInBounds_toArray, List.set_cons_zero, List.set_cons_succ, List.getElem_toArray, List.getElem_cons_succ, List.getElem_cons_zero]
                      refine wpAnyH_done (by kernel_rfl) ?_ _
                      have HWx20 := Lib.hid hww
                      have HXx20 := Lib.hid hll
                      have HBx20 := Lib.hid hkk
                      have HGx20 := Lib.hid hgg
                      have HYx20 := Lib.hid hyx
                      clear hHeld hwx htu hww hll hkk hgg hgW z0 z1 z2 z3 f0 f1 f2 f3 hw0 hl0 hk0 hw1 hl1 hk1 hw2 hl2 hk2 hw3 hl3 hk3 hy0 hy1 hy2 hy3 hyx
                      obtain ⟨uz, huz⟩ : ∃ q, wx = q := ⟨_, rfl⟩
                      rw [huz] at HWx20 HXx20 HBx20 HGx20 HYx20 ⊢
                      clear huz
                      have a0 : uz.cell? ⟨gx, 0, none⟩ = some (.int .i64 pv) := HGx20.out.b.cell 0
                      have a1 : uz.cell? ⟨gx, 1, none⟩ = some (.string pn) := HGx20.out.b.cell 1
                      have a2 : uz.cell? ⟨gx, 2, none⟩ = some (.string pt) := HGx20.out.b.cell 2
                      have a3 : uz.cell? ⟨gx, 3, none⟩ = some (.int .i64 pe) := HGx20.out.b.cell 3
                      have b0 : uz.cell? ⟨gy, 0, none⟩ = some (.int .i64 pv) := HYx20.out.b.cell 0
                      have b1 : uz.cell? ⟨gy, 1, none⟩ = some (.string pn) := HYx20.out.b.cell 1
                      have b2 : uz.cell? ⟨gy, 2, none⟩ = some (.string pt) := HYx20.out.b.cell 2
                      have b3 : uz.cell? ⟨gy, 3, none⟩ = some (.int .i64 pe) := HYx20.out.b.cell 3
                      have HPE := Lib.hid (eqP_same ⟨pv, pn, pt, pe⟩)
                      have hee : (er != er) = false := by simp
                      go_upto_region 28 with (refine wpList_nep (by kernel_rfl) (.tmp 108) (.tmp 109) _ rfl ⟨pv, pn, pt, pe⟩ ⟨pv, pn, pt, pe⟩ rfl rfl ?_; rw [HPE.out])
                      clear a0 a1 a2 a3 b0 b1 b2 b3
                      have HE2 := Lib.hid (show L.length = m ∧ m ≤ i + 1 ∧ b2.se ≤ ((i + 1 : Nat) : Int) ∧ Gk b2 ∧ ∀ s ∈ L, s.size ≤ 1099511627776 from ⟨HE.out.1, by have := HE.out.2.1; omega, by rw [HSE.out]; have := HE.out.2.2.1; omega, HG2.out, HE.out.2.2.2.2⟩)
                      obtain ⟨M, hM⟩ : ∃ M, b2.l.length = M := ⟨_, rfl⟩
                      have HM := Lib.hid hM
                      obtain ⟨A6, c6, hbk, _, _⟩ := HWx20.out.d.ex
                      rw [hM] at hbk
                      have HBK := Lib.hid hbk
                      clear hM hbk
                      go_upto_region 28 with fail
                      try simp only [List.cons_append, List.nil_append]
                      refine wp_region_held_drew (S := fun wz => Below uz.heap.size uz wz) (by kernel_rfl) ((Below.refl _ _).drew) (fun hHeld => ?_)
                      refine take_at (some 131) (i := 0) (v := ?_) rfl rfl (by kernel_rfl) (by kernel_rfl) (by kernel_rfl) (fun _ _ _ h => h) (Or.inl ⟨by kernel_rfl, ?_⟩) hHeld ?_
                      rotate_left
                      · intro wz hSw; go_simp; try (with_reducible rfl)
                      try simp only [Act.put, List.setIfInBounds_toArray, List.set_cons_zero, List.set_cons_succ, List.getElem_toArray, List.getElem_cons_succ, List.getElem_cons_zero]
                      refine take_at (some 133) (i := 2) (v := ?_) rfl rfl (by kernel_rfl) (by kernel_rfl) (by kernel_rfl) (fun _ _ _ h => h) (Or.inl ⟨by kernel_rfl, ?_⟩) hHeld ?_
                      rotate_left
                      · intro wz hSw; go_simp; try (with_reducible rfl)
                      try simp only [Act.put, List.setIfInBounds_toArray, List.set_cons_zero, List.set_cons_succ, List.getElem_toArray, List.getElem_cons_succ, List.getElem_cons_zero]
                      refine take_at (some 134) (i := 3) (v := ?_) rfl rfl (by kernel_rfl) (by kernel_rfl) (by kernel_rfl) (fun _ _ _ h => h) (Or.inl ⟨by kernel_rfl, ?_⟩) hHeld ?_
                      rotate_left
                      · intro wz hSw; go_simp; try (with_reducible rfl)
                      try simp only [Act.put, List.setIfInBounds_toArray, List.set_cons_zero, List.set_cons_succ, List.getElem_toArray, List.getElem_cons_succ, List.getElem_cons_zero]
                      refine take_at (some 135) (i := 4) (v := ?_) rfl rfl (by kernel_rfl) (by kernel_rfl) (by kernel_rfl) (fun _ _ _ h => h) (Or.inl ⟨by kernel_rfl, ?_⟩) hHeld ?_
                      rotate_left
                      · intro wz hSw; go_simp; try (with_reducible rfl)
                      try simp only [Act.put, List.setIfInBounds_toArray, List.set_cons_zero, List.set_cons_succ, List.getElem_toArray, List.getElem_cons_succ, List.getElem_cons_zero]
                      refine take_at (some 136) (i := 5) (v := ?_) rfl rfl (by kernel_rfl) (by kernel_rfl) (by kernel_rfl) (fun _ _ _ h => h) (Or.inl ⟨by kernel_rfl, ?_⟩) hHeld ?_
                      rotate_left
                      · intro wz hSw; have d2 : wz.cell? ⟨db, 2, none⟩ = some (.slice A6 M c6) := (HBK.out.below hSw HBK.out.lt).cell 2; go_simp; try (with_reducible rfl)
                      try simp only [Act.put, List.setIfInBounds_toArray, List.set_cons_zero, List.set_cons_succ, List.getElem_toArray, List.getElem_cons_succ, List.getElem_cons_zero]
                      refine take_at (some 137) (i := 6) (v := ?_) rfl rfl (by kernel_rfl) (by kernel_rfl) (by kernel_rfl) (fun _ _ _ h => h) (Or.inl ⟨by kernel_rfl, ?_⟩) hHeld ?_
                      rotate_left
                      · intro wz hSw; go_simp; try (with_reducible rfl)
                      try simp only [Act.put, List.setIfInBounds_toArray, List.set_cons_zero, List.set_cons_succ, List.getElem_toArray, List.getElem_cons_succ, List.getElem_cons_zero]
                      refine wpAnyH_ready (rs := [1]) (by kernel_rfl) (by simp) (AllReadyH.cons rfl (fun K hK => ?_) AllReadyH.nil)
                      rw [if_pos (by kernel_rfl)]
                      go_simp
                      refine (z_many (HWx20.out.z.on ((Below.refl uz.heap.size uz).drew)) M HM.out).mono ?_
                      rintro e y1 ⟨rfl, hb1⟩
                      try dsimp only
                      refine hK.out _ _ (((Below.refl uz.heap.size uz).drew).trans (hb1.mono ((Below.refl uz.heap.size uz).drew).size)) (fun hHeld => ?_)
                      try simp only [Act.put, List.setIfInBounds_toArray, List.set_cons_zero, List.set_cons_succ, List.getElem_toArray, List.getElem_cons_succ, List.getElem_cons_zero]
                      refine take_at (some 138) (i := 7) (v := ?_) rfl rfl (by kernel_rfl) (by kernel_rfl) (by kernel_rfl) (fun _ _ _ h => h) (Or.inl ⟨by kernel_rfl, ?_⟩) hHeld ?_
                      rotate_left
                      · intro wz hSw; go_simp; try (with_reducible rfl)
                      try simp only [Act.put, List.setIfInBounds_toArray, List.set_cons_zero, List.set_cons_succ, List.getElem_toArray, List.getElem_cons_succ, List.getElem_cons_zero]
                      refine wpAnyH_done (by kernel_rfl) ?_ _
                      have hbb := ((Below.refl uz.heap.size uz).drew).trans (hb1.mono ((Below.refl uz.heap.size uz).drew).size)
                      have HW9 := Lib.hid (HWx20.out.on hbb)
                      have HX9 := Lib.hid (HXx20.out.on hbb)
                      clear hb1 hbb hHeld
                      go_wp2_with fail
                      go_roundw
                      case rel => exact ⟨i + 1, m, b2, L, H5, G5, A1, c1, by omega, rfl, by go_num, HW9, HX9, HE2⟩
                      case measure => simp [intOf] <;> omega
          · rw [if_pos (by kernel_rfl)]
            go_simp
            try dsimp only
            obtain ⟨w1, hw5⟩ : ∃ wq, w0.alloc (.cells #[.int .i64 0, .string ⟨#[]⟩, .string ⟨#[]⟩, .int .i64 0] 31) = wq := ⟨_, rfl⟩
            obtain ⟨gx, hgw⟩ : ∃ gq, w0.heap.size = gq := ⟨_, rfl⟩
            have hg1 : Bz w1 (H ++ G) gx 31 (pcs zeroPs) := by rw [← hw5, ← hgw]; exact Bz.new hw0.hi _ _
            have hgW : W.heap.size ≤ gx := by rw [← hgw]; exact hw0.z.l.size
            have hbel : Below w0.heap.size w0 w1 := by rw [← hw5]; exact (Below.refl _ _).alloc (Nat.le_refl _) _
            have hw1 := hw0.on hbel
            have hl1 := hl0.on hbel
            have hk1 := hk0.on hbel
            try rw [hw5]
            try rw [hgw]
            clear hw5 hgw hbel
            refine hK.out _ _ hk1.b (fun hHeld => ?_)
            try simp only [Act.put, List.setIfInBounds_toArray, List.set_cons_zero, List.set_cons_succ, List.getElem_toArray, List.getElem_cons_succ, List.getElem_cons_zero]
            refine wpAnyH_ready (rs := [3]) (by kernel_rfl) (by simp) (AllReadyH.cons rfl (fun K hK => ?_) (AllReadyH.nil))
            · rw [if_pos (by kernel_rfl)]
              go_simp
              refine (show Calls Tryd.prog 14 #[.agg #[.int .i64 2, .int .i64 ov, .string on, .string ot, .int .i64 oe, .string od, .int .i64 oa, .string ox, .string og], .slice A1 m c1] w1 _ from tshown_ok ⟨2, ⟨ov, on, ot, oe⟩, od, oa, ox, og⟩ A1 L m c1 w1 (Ow.rw_ (fun _ => rfl) hl1.o) HE.out.1 S HSS.out).mono ?_
              rintro e w2 ⟨rfl, hb⟩
              try dsimp only
              have hw2 := hw1.on hb
              have hl2 := hl1.on hb
              have hk2 := hk1.on hb
              have hg2 := hg1.on hb
              clear hb
              refine hK.out _ _ hk2.b (fun hHeld => ?_)
              try simp only [Act.put, List.setIfInBounds_toArray, List.set_cons_zero, List.set_cons_succ, List.getElem_toArray, List.getElem_cons_succ, List.getElem_cons_zero]
              refine wpAnyH_ready (rs := [6]) (by kernel_rfl) (by simp) (AllReadyH.cons rfl (fun K hK => ?_) (AllReadyH.nil))
              · rw [if_pos (by kernel_rfl)]
                go_simp
                refine (z_redeem hw2.z HE.out.2.2.2.1 S og ⟨pv, pn, pt, pe⟩ er b2 HR.out HSZ.out).mono ?_
                rintro e w3 ⟨H5, rfl, h1, h2⟩
                try dsimp only
                have hw3 := hw2.left h2 h1
                have hl3 := hl2.step (h2.left G)
                have hk3 := hk2.step (h2.left G)
                have hg3 := hg2.step (h2.left G)
                clear h1 h2
                refine hK.out _ _ hk3.b (fun hHeld => ?_)
                try simp only [Act.put, List.setIfInBounds_toArray, List.set_cons_zero, List.set_cons_succ, List.getElem_toArray, List.getElem_cons_succ, List.getElem_cons_zero]
                refine take_at (some 88) (i := 7) (v := ?_) rfl rfl (by kernel_rfl) (by kernel_rfl) (by kernel_rfl) (fun _ _ _ h => h) (Or.inl ⟨by kernel_rfl, ?_⟩) hHeld ?_
                rotate_left
                · intro wz hSw; go_simp; try (with_reducible rfl)
                try simp only [Act.put, List.setIfInBounds_toArray, List.set_cons_zero, List.set_cons_succ, List.getElem_toArray, List.getElem_cons_succ, List.getElem_cons_zero]
                refine take_at (some 96) (i := 8) (v := ?_) rfl rfl (by kernel_rfl) (by kernel_rfl) (by kernel_rfl) (fun _ _ _ h => h) (Or.inl ⟨by kernel_rfl, ?_⟩) hHeld ?_
                rotate_left
                · intro wz hSw; go_simp; try (with_reducible rfl)
                try simp only [Act.put, List.setIfInBounds_toArray, List.set_cons_zero, List.set_cons_succ, List.getElem_toArray, List.getElem_cons_succ, List.getElem_cons_zero]
                refine take_at (some 97) (i := 9) (v := ?_) rfl rfl (by kernel_rfl) (by kernel_rfl) (by kernel_rfl) (fun _ _ _ h => h) (Or.inl ⟨by kernel_rfl, ?_⟩) hHeld ?_
                rotate_left
                · intro wz hSw; go_simp; try (with_reducible rfl)
                try simp only [Act.put, List.setIfInBounds_toArray, List.set_cons_zero, List.set_cons_succ, List.getElem_toArray, List.getElem_cons_succ, List.getElem_cons_zero]
                have z0 : w3.cell? ⟨gx, 0, none⟩ = some (.int .i64 0) := hg3.b.cell 0
                have z1 : w3.cell? ⟨gx, 1, none⟩ = some (.string ⟨#[]⟩) := hg3.b.cell 1
                have z2 : w3.cell? ⟨gx, 2, none⟩ = some (.string ⟨#[]⟩) := hg3.b.cell 2
                have z3 : w3.cell? ⟨gx, 3, none⟩ = some (.int .i64 0) := hg3.b.cell 3
                have f0 := hg3.b.frozen 0
                have f1 := hg3.b.frozen 1
                have f2 := hg3.b.frozen 2
                have f3 := hg3.b.frozen 3
                have htu := tu_set4 hg3 hgW ⟨pv, pn, pt, pe⟩
                obtain ⟨wx, hwx⟩ : ∃ wx, set4 w3 gx ⟨pv, pn, pt, pe⟩ = wx := ⟨_, rfl⟩
                have hww := hw3.tu htu
                have hll := htu.lr hl3 (by decide)
                have hkk := htu.bz hk3 (by decide)
                have hgg : Bz wx (H5 ++ G) gx 31 (pcs ⟨pv, pn, pt, pe⟩) := by rw [← hwx]; exact ⟨hg3.b.set4 ⟨pv, pn, pt, pe⟩, hg3.n⟩
                rw [hwx] at hww hll hkk
                refine wpAnyH_ready (rs := [11]) (by kernel_rfl) (by simp) (AllReadyH.cons rfl (fun K hK => ?_) AllReadyH.nil)
                rw [if_pos (by kernel_rfl)]
                go_simp
                simp only [set4] at hwx
                try rw [hwx]
                refine hK.out _ _ hkk.b (fun hHeld => ?_)
                try simp only [Act.put, List.setIfInBounds_toArray, List.set_cons_zero, List.set_cons_succ, List.getElem_toArray, List.getElem_cons_succ, List.getElem_cons_zero]
                refine take_at (some 12) (i := 12) (v := ?_) rfl rfl (by kernel_rfl) (by kernel_rfl) (by kernel_rfl) (fun _ _ _ h => h) (Or.inl ⟨by kernel_rfl, ?_⟩) hHeld ?_
                rotate_left
                · intro wz hSw; go_simp; try (with_reducible rfl)
                try simp only [Act.put, List.setIfInBounds_toArray, List.set_cons_zero, List.set_cons_succ, List.getElem_toArray, List.getElem_cons_succ, List.getElem_cons_zero]
                refine wpAnyH_done (by kernel_rfl) ?_ _
                have HWx19 := Lib.hid hww
                have HXx19 := Lib.hid hll
                have HBx19 := Lib.hid hkk
                have HGx19 := Lib.hid hgg
                clear hHeld hwx htu hww hll hkk hgg hgW z0 z1 z2 z3 f0 f1 f2 f3 hw0 hl0 hk0 hw1 hl1 hk1 hw2 hl2 hk2 hw3 hl3 hk3  
                obtain ⟨ux, hux⟩ : ∃ q, wx = q := ⟨_, rfl⟩
                rw [hux] at HWx19 HXx19 HBx19 HGx19 ⊢
                clear hux
                obtain ⟨gy, hgy⟩ : ∃ q, gx = q := ⟨_, rfl⟩
                rw [hgy] at HGx19 ⊢
                clear hgy
                go_upto_region 20 with fail
                try simp only [List.cons_append, List.nil_append]
                refine wp_region_held_drew (S := fun wz => Bk wz kb 33 #[.int .i64 2, .int .i64 ov, .string on, .string ot, .int .i64 oe, .string od, .int .i64 oa, .string ox, .string og]) (by kernel_rfl) (HBx19.out.b.below (show Below ux.heap.size ux ux.drew from (Below.refl _ _).drew) HBx19.out.b.lt) (fun hHeld => ?_)
                refine take_at (some 99) (i := 0) (v := ?_) rfl rfl (by kernel_rfl) (by kernel_rfl) (by kernel_rfl) (fun _ _ _ h => h) (Or.inl ⟨by kernel_rfl, ?_⟩) hHeld ?_
                rotate_left
                · intro wz hSw; go_simp; try (with_reducible rfl)
                try simp only [Act.put, List.setIfInBounds_toArray, List.set_cons_zero, List.set_cons_succ, List.getElem_toArray, List.getElem_cons_succ, List.getElem_cons_zero]
                refine take_at (some 100) (i := 1) (v := ?_) rfl rfl (by kernel_rfl) (by kernel_rfl) (by kernel_rfl) (fun _ _ _ h => h) (Or.inl ⟨by kernel_rfl, ?_⟩) hHeld ?_
                rotate_left
                · intro wz hSw; have q0 : wz.cell? ⟨kb, 0, none⟩ = some (.int .i64 2) := hSw.cell 0; have q1 : wz.cell? ⟨kb, 1, none⟩ = some (.int .i64 ov) := hSw.cell 1; have q2 : wz.cell? ⟨kb, 2, none⟩ = some (.string on) := hSw.cell 2; have q3 : wz.cell? ⟨kb, 3, none⟩ = some (.string ot) := hSw.cell 3; have q4 : wz.cell? ⟨kb, 4, none⟩ = some (.int .i64 oe) := hSw.cell 4; have q5 : wz.cell? ⟨kb, 5, none⟩ = some (.string od) := hSw.cell 5; have q6 : wz.cell? ⟨kb, 6, none⟩ = some (.int .i64 oa) := hSw.cell 6; have q7 : wz.cell? ⟨kb, 7, none⟩ = some (.string ox) := hSw.cell 7; have q8 : wz.cell? ⟨kb, 8, none⟩ = some (.string og) := hSw.cell 8; go_simp; try (with_reducible rfl)
                try simp only [Act.put, List.setIfInBounds_toArray, List.set_cons_zero, List.set_cons_succ, List.getElem_toArray, List.getElem_cons_succ, List.getElem_cons_zero]
                refine take_at (some 101) (i := 2) (v := ?_) rfl rfl (by kernel_rfl) (by kernel_rfl) (by kernel_rfl) (fun _ _ _ h => h) (Or.inl ⟨by kernel_rfl, ?_⟩) hHeld ?_
                rotate_left
                · intro wz hSw; go_simp; try (with_reducible rfl)
                try simp only [Act.put, List.setIfInBounds_toArray, List.set_cons_zero, List.set_cons_succ, List.getElem_toArray, List.getElem_cons_succ, List.getElem_cons_zero]
                refine take_at (some 103) (i := 4) (v := ?_) rfl rfl (by kernel_rfl) (by kernel_rfl) (by kernel_rfl) (fun _ _ _ h => h) (Or.inl ⟨by kernel_rfl, ?_⟩) hHeld ?_
                rotate_left
                · intro wz hSw; go_simp; try (with_reducible rfl)
                try simp only [Act.put, List.setIfInBounds_toArray, List.set_cons_zero, List.set_cons_succ, List.getElem_toArray, List.getElem_cons_succ, List.getElem_cons_zero]
                refine take_at (some 104) (i := 5) (v := ?_) rfl rfl (by kernel_rfl) (by kernel_rfl) (by kernel_rfl) (fun _ _ _ h => h) (Or.inl ⟨by kernel_rfl, ?_⟩) hHeld ?_
                rotate_left
                · intro wz hSw; have q0 : wz.cell? ⟨kb, 0, none⟩ = some (.int .i64 2) := hSw.cell 0; have q1 : wz.cell? ⟨kb, 1, none⟩ = some (.int .i64 ov) := hSw.cell 1; have q2 : wz.cell? ⟨kb, 2, none⟩ = some (.string on) := hSw.cell 2; have q3 : wz.cell? ⟨kb, 3, none⟩ = some (.string ot) := hSw.cell 3; have q4 : wz.cell? ⟨kb, 4, none⟩ = some (.int .i64 oe) := hSw.cell 4; have q5 : wz.cell? ⟨kb, 5, none⟩ = some (.string od) := hSw.cell 5; have q6 : wz.cell? ⟨kb, 6, none⟩ = some (.int .i64 oa) := hSw.cell 6; have q7 : wz.cell? ⟨kb, 7, none⟩ = some (.string ox) := hSw.cell 7; have q8 : wz.cell? ⟨kb, 8, none⟩ = some (.string og) := hSw.cell 8; go_simp; try (with_reducible rfl)
                try simp only [Act.put, List.setIfInBounds_toArray, List.set_cons_zero, List.set_cons_succ, List.getElem_toArray, List.getElem_cons_succ, List.getElem_cons_zero]
                obtain ⟨w0, hwd⟩ : ∃ wq, ux.drew = wq := ⟨_, rfl⟩
                have hb0 : Below ux.heap.size ux w0 := by rw [← hwd]; exact (Below.refl _ _).drew
                have hw0 := HWx19.out.on hb0
                have hl0 := HXx19.out.on hb0
                have hk0 := HBx19.out.on hb0
                have hy0 := HGx19.out.on hb0
                try rw [hwd]
                clear hwd hb0
                refine wpAnyH_ready (rs := [3, 10]) (by kernel_rfl) (by simp) (AllReadyH.cons rfl (fun K hK => ?_) (AllReadyH.cons rfl (fun K hK => ?_) (AllReadyH.nil)))
                · rw [if_pos (by kernel_rfl)]
                  go_simp
                  refine (show Calls Tryd.prog 14 #[.agg #[.int .i64 2, .int .i64 ov, .string on, .string ot, .int .i64 oe, .string od, .int .i64 oa, .string ox, .string og], .slice A1 m c1] w0 _ from tshown_ok ⟨2, ⟨ov, on, ot, oe⟩, od, oa, ox, og⟩ A1 L m c1 w0 (Ow.rw_ (fun _ => rfl) hl0.o) HE.out.1 S HSS.out).mono ?_
                  rintro e w1 ⟨rfl, hb⟩
                  try dsimp only
                  have hw1 := hw0.on hb
                  have hl1 := hl0.on hb
                  have hk1 := hk0.on hb
                  have hy1 := hy0.on hb
                  clear hb
                  refine hK.out _ _ hk1.b (fun hHeld => ?_)
                  try simp only [Act.put, List.setIfInBounds_toArray, List.set_cons_zero, List.set_cons_succ, List.getElem_toArray, List.getElem_cons_succ, List.getElem_cons_zero]
                  refine wpAnyH_ready (rs := [6, 10]) (by kernel_rfl) (by simp) (AllReadyH.cons rfl (fun K hK => ?_) (AllReadyH.cons rfl (fun K hK => ?_) (AllReadyH.nil)))
                  · rw [if_pos (by kernel_rfl)]
                    go_simp
                    refine (r_redeem hw1.d HE.out.2.2.2.1 S og ⟨pv, pn, pt, pe⟩ er b2 HR.out).mono ?_
                    rintro e w2 ⟨G5, rfl, h1, h2⟩
                    try dsimp only
                    have hw2 := hw1.right h2 h1
                    have hl2 := hl1.step (h2.right H5)
                    have hk2 := hk1.step (h2.right H5)
                    have hy2 := hy1.step (h2.right H5)
                    clear h1 h2
                    refine hK.out _ _ hk2.b (fun hHeld => ?_)
                    try simp only [Act.put, List.setIfInBounds_toArray, List.set_cons_zero, List.set_cons_succ, List.getElem_toArray, List.getElem_cons_succ, List.getElem_cons_zero]
                    refine take_at (some 98) (i := 7) (v := ?_) rfl rfl (by kernel_rfl) (by kernel_rfl) (by kernel_rfl) (fun _ _ _ h => h) (Or.inl ⟨by kernel_rfl, ?_⟩) hHeld ?_
                    rotate_left
                    · intro wz hSw; go_simp; try (with_reducible rfl)
                    try simp only [Act.put, List.setIfInBounds_toArray, List.set_cons_zero, List.set_cons_succ, List.getElem_toArray, List.getElem_cons_succ, List.getElem_cons_zero]
                    refine take_at (some 106) (i := 8) (v := ?_) rfl rfl (by kernel_rfl) (by kernel_rfl) (by kernel_rfl) (fun _ _ _ h => h) (Or.inl ⟨by kernel_rfl, ?_⟩) hHeld ?_
                    rotate_left
                    · intro wz hSw; go_simp; try (with_reducible rfl)
                    try simp only [Act.put, List.setIfInBounds_toArray, List.set_cons_zero, List.set_cons_succ, List.getElem_toArray, List.getElem_cons_succ, List.getElem_cons_zero]
                    refine take_at (some 107) (i := 9) (v := ?_) rfl rfl (by kernel_rfl) (by kernel_rfl) (by kernel_rfl) (fun _ _ _ h => h) (Or.inl ⟨by kernel_rfl, ?_⟩) hHeld ?_
                    rotate_left
                    · intro wz hSw; go_simp; try (with_reducible rfl)
                    try simp only [Act.put, List.setIfInBounds_toArray, List.set_cons_zero, List.set_cons_succ, List.getElem_toArray, List.getElem_cons_succ, List.getElem_cons_zero]
                    refine wpAnyH_ready (rs := [10]) (by kernel_rfl) (by simp) (AllReadyH.cons rfl (fun K hK => ?_) (AllReadyH.nil))
                    · rw [if_pos (by kernel_rfl)]
                      go_simp
                      try dsimp only
                      obtain ⟨w3, hw5⟩ : ∃ wq, w2.alloc (.cells #[.int .i64 0, .string ⟨#[]⟩, .string ⟨#[]⟩, .int .i64 0] 31) = wq := ⟨_, rfl⟩
                      obtain ⟨gx, hgw⟩ : ∃ gq, w2.heap.size = gq := ⟨_, rfl⟩
                      have hg3 : Bz w3 (H5 ++ G5) gx 31 (pcs zeroPs) := by rw [← hw5, ← hgw]; exact Bz.new hw2.hi _ _
                      have hgW : W.heap.size ≤ gx := by rw [← hgw]; exact hw2.z.l.size
                      have hneq : gy ≠ gx := fun e => by have := hy2.b.lt; omega
                      have hbel : Below w2.heap.size w2 w3 := by rw [← hw5]; exact (Below.refl _ _).alloc (Nat.le_refl _) _
                      have hw3 := hw2.on hbel
                      have hl3 := hl2.on hbel
                      have hk3 := hk2.on hbel
                      have hy3 := hy2.on hbel
                      try rw [hw5]
                      try rw [hgw]
                      clear hw5 hgw hbel
                      refine hK.out _ _ hk3.b (fun hHeld => ?_)
                      try simp only [Act.put, List.setIfInBounds_toArray, List.set_cons_zero, List.set_cons_succ, List.getElem_toArray, List.getElem_cons_succ, List.getElem_cons_zero]
                      have z0 : w3.cell? ⟨gx, 0, none⟩ = some (.int .i64 0) := hg3.b.cell 0
                      have z1 : w3.cell? ⟨gx, 1, none⟩ = some (.string ⟨#[]⟩) := hg3.b.cell 1
                      have z2 : w3.cell? ⟨gx, 2, none⟩ = some (.string ⟨#[]⟩) := hg3.b.cell 2
                      have z3 : w3.cell? ⟨gx, 3, none⟩ = some (.int .i64 0) := hg3.b.cell 3
                      have f0 := hg3.b.frozen 0
                      have f1 := hg3.b.frozen 1
                      have f2 := hg3.b.frozen 2
                      have f3 := hg3.b.frozen 3
                      have htu := tu_set4 hg3 hgW ⟨pv, pn, pt, pe⟩
                      obtain ⟨wx, hwx⟩ : ∃ wx, set4 w3 gx ⟨pv, pn, pt, pe⟩ = wx := ⟨_, rfl⟩
                      have hww := hw3.tu htu
                      have hll := htu.lr hl3 (by decide)
                      have hkk := htu.bz hk3 (by decide)
                      have hgg : Bz wx (H5 ++ G5) gx 31 (pcs ⟨pv, pn, pt, pe⟩) := by rw [← hwx]; exact ⟨hg3.b.set4 ⟨pv, pn, pt, pe⟩, hg3.n⟩
                      have hyx : Bz wx (H5 ++ G5) gy 31 (pcs ⟨pv, pn, pt, pe⟩) := by rw [← hwx]; exact ⟨hy3.b.ke (ke_set4 w3 gx ⟨pv, pn, pt, pe⟩) (by simpa using hneq), hy3.n⟩
                      rw [hwx] at hww hll hkk
                      refine wpAnyH_ready (rs := [11]) (by kernel_rfl) (by simp) (AllReadyH.cons rfl (fun K hK => ?_) AllReadyH.nil)
                      rw [if_pos (by kernel_rfl)]
                      go_simp
                      simp only [set4] at hwx
                      try rw [hwx]
                      refine hK.out _ _ hkk.b (fun hHeld => ?_)
                      try simp only [Act.put, List.setIfInBounds_toArray, List.set_cons_zero, List.set_cons_succ, List.getElem_toArray, List.getElem_cons_succ, List.getElem_cons_zero]
                      refine take_at (some 14) (i := 12) (v := ?_) rfl rfl (by kernel_rfl) (by kernel_rfl) (by kernel_rfl) (fun _ _ _ h => h) (Or.inl ⟨by kernel_rfl, ?_⟩) hHeld ?_
                      rotate_left
                      · intro wz hSw; go_simp; try (with_reducible rfl)
                      try simp only [Act.put, List.setIfInBounds_toArray, List.set_cons_zero, List.set_cons_succ, List.getElem_toArray, List.getElem_cons_succ, List.getElem_cons_zero]
                      refine wpAnyH_done (by kernel_rfl) ?_ _
                      have HWx20 := Lib.hid hww
                      have HXx20 := Lib.hid hll
                      have HBx20 := Lib.hid hkk
                      have HGx20 := Lib.hid hgg
                      have HYx20 := Lib.hid hyx
                      clear hHeld hwx htu hww hll hkk hgg hgW z0 z1 z2 z3 f0 f1 f2 f3 hw0 hl0 hk0 hw1 hl1 hk1 hw2 hl2 hk2 hw3 hl3 hk3 hy0 hy1 hy2 hy3 hyx
                      obtain ⟨uz, huz⟩ : ∃ q, wx = q := ⟨_, rfl⟩
                      rw [huz] at HWx20 HXx20 HBx20 HGx20 HYx20 ⊢
                      clear huz
                      have a0 : uz.cell? ⟨gx, 0, none⟩ = some (.int .i64 pv) := HGx20.out.b.cell 0
                      have a1 : uz.cell? ⟨gx, 1, none⟩ = some (.string pn) := HGx20.out.b.cell 1
                      have a2 : uz.cell? ⟨gx, 2, none⟩ = some (.string pt) := HGx20.out.b.cell 2
                      have a3 : uz.cell? ⟨gx, 3, none⟩ = some (.int .i64 pe) := HGx20.out.b.cell 3
                      have b0 : uz.cell? ⟨gy, 0, none⟩ = some (.int .i64 pv) := HYx20.out.b.cell 0
                      have b1 : uz.cell? ⟨gy, 1, none⟩ = some (.string pn) := HYx20.out.b.cell 1
                      have b2 : uz.cell? ⟨gy, 2, none⟩ = some (.string pt) := HYx20.out.b.cell 2
                      have b3 : uz.cell? ⟨gy, 3, none⟩ = some (.int .i64 pe) := HYx20.out.b.cell 3
                      have HPE := Lib.hid (eqP_same ⟨pv, pn, pt, pe⟩)
                      have hee : (er != er) = false := by simp
                      go_upto_region 28 with (refine wpList_nep (by kernel_rfl) (.tmp 108) (.tmp 109) _ rfl ⟨pv, pn, pt, pe⟩ ⟨pv, pn, pt, pe⟩ rfl rfl ?_; rw [HPE.out])
                      clear a0 a1 a2 a3 b0 b1 b2 b3
                      have HE2 := Lib.hid (show L.length = m ∧ m ≤ i + 1 ∧ b2.se ≤ ((i + 1 : Nat) : Int) ∧ Gk b2 ∧ ∀ s ∈ L, s.size ≤ 1099511627776 from ⟨HE.out.1, by have := HE.out.2.1; omega, by rw [HSE.out]; have := HE.out.2.2.1; omega, HG2.out, HE.out.2.2.2.2⟩)
                      obtain ⟨M, hM⟩ : ∃ M, b2.l.length = M := ⟨_, rfl⟩
                      have HM := Lib.hid hM
                      obtain ⟨A6, c6, hbk, _, _⟩ := HWx20.out.d.ex
                      rw [hM] at hbk
                      have HBK := Lib.hid hbk
                      clear hM hbk
                      go_upto_region 28 with fail
                      try simp only [List.cons_append, List.nil_append]
                      refine wp_region_held_drew (S := fun wz => Below uz.heap.size uz wz) (by kernel_rfl) ((Below.refl _ _).drew) (fun hHeld => ?_)
                      refine take_at (some 131) (i := 0) (v := ?_) rfl rfl (by kernel_rfl) (by kernel_rfl) (by kernel_rfl) (fun _ _ _ h => h) (Or.inl ⟨by kernel_rfl, ?_⟩) hHeld ?_
                      rotate_left
                      · intro wz hSw; go_simp; try (with_reducible rfl)
                      try simp only [Act.put, List.setIfInBounds_toArray, List.set_cons_zero, List.set_cons_succ, List.getElem_toArray, List.getElem_cons_succ, List.getElem_cons_zero]
                      refine take_at (some 133) (i := 2) (v := ?_) rfl rfl (by kernel_rfl) (by kernel_rfl) (by kernel_rfl) (fun _ _ _ h => h) (Or.inl ⟨by kernel_rfl, ?_⟩) hHeld ?_
                      rotate_left
                      · intro wz hSw; go_simp; try (with_reducible rfl)
                      try simp only [Act.put, List.setIfInBounds_toArray, List.set_cons_zero, List.set_cons_succ, List.getElem_toArray, List.getElem_cons_succ, List.getElem_cons_zero]
                      refine take_at (some 134) (i := 3) (v := ?_) rfl rfl (by kernel_rfl) (by kernel_rfl) (by kernel_rfl) (fun _ _ _ h => h) (Or.inl ⟨by kernel_rfl, ?_⟩) hHeld ?_
                      rotate_left
                      · intro wz hSw; go_simp; try (with_reducible rfl)
                      try simp only [Act.put, List.setIfInBounds_toArray, List.set_cons_zero, List.set_cons_succ, List.getElem_toArray, List.getElem_cons_succ, List.getElem_cons_zero]
                      refine take_at (some 135) (i := 4) (v := ?_) rfl rfl (by kernel_rfl) (by kernel_rfl) (by kernel_rfl) (fun _ _ _ h => h) (Or.inl ⟨by kernel_rfl, ?_⟩) hHeld ?_
                      rotate_left
                      · intro wz hSw; go_simp; try (with_reducible rfl)
                      try simp only [Act.put, List.setIfInBounds_toArray, List.set_cons_zero, List.set_cons_succ, List.getElem_toArray, List.getElem_cons_succ, List.getElem_cons_zero]
                      refine take_at (some 136) (i := 5) (v := ?_) rfl rfl (by kernel_rfl) (by kernel_rfl) (by kernel_rfl) (fun _ _ _ h => h) (Or.inl ⟨by kernel_rfl, ?_⟩) hHeld ?_
                      rotate_left
                      · intro wz hSw; have d2 : wz.cell? ⟨db, 2, none⟩ = some (.slice A6 M c6) := (HBK.out.below hSw HBK.out.lt).cell 2; go_simp; try (with_reducible rfl)
                      try simp only [Act.put, List.setIfInBounds_toArray, List.set_cons_zero, List.set_cons_succ, List.getElem_toArray, List.getElem_cons_succ, List.getElem_cons_zero]
                      refine take_at (some 137) (i := 6) (v := ?_) rfl rfl (by kernel_rfl) (by kernel_rfl) (by kernel_rfl) (fun _ _ _ h => h) (Or.inl ⟨by kernel_rfl, ?_⟩) hHeld ?_
                      rotate_left
                      · intro wz hSw; go_simp; try (with_reducible rfl)
                      try simp only [Act.put, List.setIfInBounds_toArray, List.set_cons_zero, List.set_cons_succ, List.getElem_toArray, List.getElem_cons_succ, List.getElem_cons_zero]
                      refine wpAnyH_ready (rs := [1]) (by kernel_rfl) (by simp) (AllReadyH.cons rfl (fun K hK => ?_) AllReadyH.nil)
                      rw [if_pos (by kernel_rfl)]
                      go_simp
                      refine (z_many (HWx20.out.z.on ((Below.refl uz.heap.size uz).drew)) M HM.out).mono ?_
                      rintro e y1 ⟨rfl, hb1⟩
                      try dsimp only
                      refine hK.out _ _ (((Below.refl uz.heap.size uz).drew).trans (hb1.mono ((Below.refl uz.heap.size uz).drew).size)) (fun hHeld => ?_)
                      try simp only [Act.put, List.setIfInBounds_toArray, List.set_cons_zero, List.set_cons_succ, List.getElem_toArray, List.getElem_cons_succ, List.getElem_cons_zero]
                      refine take_at (some 138) (i := 7) (v := ?_) rfl rfl (by kernel_rfl) (by kernel_rfl) (by kernel_rfl) (fun _ _ _ h => h) (Or.inl ⟨by kernel_rfl, ?_⟩) hHeld ?_
                      rotate_left
                      · intro wz hSw; go_simp; try (with_reducible rfl)
                      try simp only [Act.put, List.setIfInBounds_toArray, List.set_cons_zero, List.set_cons_succ, List.getElem_toArray, List.getElem_cons_succ, List.getElem_cons_zero]
                      refine wpAnyH_done (by kernel_rfl) ?_ _
                      have hbb := ((Below.refl uz.heap.size uz).drew).trans (hb1.mono ((Below.refl uz.heap.size uz).drew).size)
                      have HW9 := Lib.hid (HWx20.out.on hbb)
                      have HX9 := Lib.hid (HXx20.out.on hbb)
                      clear hb1 hbb hHeld
                      go_wp2_with fail
                      go_roundw
                      case rel => exact ⟨i + 1, m, b2, L, H5, G5, A1, c1, by omega, rfl, by go_num, HW9, HX9, HE2⟩
                      case measure => simp [intOf] <;> omega
                  · rw [if_pos (by kernel_rfl)]
                    go_simp
                    try dsimp only
                    obtain ⟨w2, hw5⟩ : ∃ wq, w1.alloc (.cells #[.int .i64 0, .string ⟨#[]⟩, .string ⟨#[]⟩, .int .i64 0] 31) = wq := ⟨_, rfl⟩
                    obtain ⟨gx, hgw⟩ : ∃ gq, w1.heap.size = gq := ⟨_, rfl⟩
                    have hg2 : Bz w2 (H5 ++ G) gx 31 (pcs zeroPs) := by rw [← hw5, ← hgw]; exact Bz.new hw1.hi _ _
                    have hgW : W.heap.size ≤ gx := by rw [← hgw]; exact hw1.z.l.size
                    have hneq : gy ≠ gx := fun e => by have := hy1.b.lt; omega
                    have hbel : Below w1.heap.size w1 w2 := by rw [← hw5]; exact (Below.refl _ _).alloc (Nat.le_refl _) _
                    have hw2 := hw1.on hbel
                    have hl2 := hl1.on hbel
                    have hk2 := hk1.on hbel
                    have hy2 := hy1.on hbel
                    try rw [hw5]
                    try rw [hgw]
                    clear hw5 hgw hbel
                    refine hK.out _ _ hk2.b (fun hHeld => ?_)
                    try simp only [Act.put, List.setIfInBounds_toArray, List.set_cons_zero, List.set_cons_succ, List.getElem_toArray, List.getElem_cons_succ, List.getElem_cons_zero]
                    refine wpAnyH_ready (rs := [6]) (by kernel_rfl) (by simp) (AllReadyH.cons rfl (fun K hK => ?_) (AllReadyH.nil))
                    · rw [if_pos (by kernel_rfl)]
                      go_simp
                      refine (r_redeem hw2.d HE.out.2.2.2.1 S og ⟨pv, pn, pt, pe⟩ er b2 HR.out).mono ?_
                      rintro e w3 ⟨G5, rfl, h1, h2⟩
                      try dsimp only
                      have hw3 := hw2.right h2 h1
                      have hl3 := hl2.step (h2.right H5)
                      have hk3 := hk2.step (h2.right H5)
                      have hy3 := hy2.step (h2.right H5)
                      have hg3 := hg2.step (h2.right H5)
                      clear h1 h2
                      refine hK.out _ _ hk3.b (fun hHeld => ?_)
                      try simp only [Act.put, List.setIfInBounds_toArray, List.set_cons_zero, List.set_cons_succ, List.getElem_toArray, List.getElem_cons_succ, List.getElem_cons_zero]
                      refine take_at (some 98) (i := 7) (v := ?_) rfl rfl (by kernel_rfl) (by kernel_rfl) (by kernel_rfl) (fun _ _ _ h => h) (Or.inl ⟨by kernel_rfl, ?_⟩) hHeld ?_
                      rotate_left
                      · intro wz hSw; go_simp; try (with_reducible rfl)
                      try simp only [Act.put, List.setIfInBounds_toArray, List.set_cons_zero, List.set_cons_succ, List.getElem_toArray, List.getElem_cons_succ, List.getElem_cons_zero]
                      refine take_at (some 106) (i := 8) (v := ?_) rfl rfl (by kernel_rfl) (by kernel_rfl) (by kernel_rfl) (fun _ _ _ h => h) (Or.inl ⟨by kernel_rfl, ?_⟩) hHeld ?_
                      rotate_left
                      · intro wz hSw; go_simp; try (with_reducible rfl)
                      try simp only [Act.put, List.setIfInBounds_toArray, List.set_cons_zero, List.set_cons_succ, List.getElem_toArray, List.getElem_cons_succ, List.getElem_cons_zero]
                      refine take_at (some 107) (i := 9) (v := ?_) rfl rfl (by kernel_rfl) (by kernel_rfl) (by kernel_rfl) (fun _ _ _ h => h) (Or.inl ⟨by kernel_rfl, ?_⟩) hHeld ?_
                      rotate_left
                      · intro wz hSw; go_simp; try (with_reducible rfl)
                      try simp only [Act.put, List.setIfInBounds_toArray, List.set_cons_zero, List.set_cons_succ, List.getElem_toArray, List.getElem_cons_succ, List.getElem_cons_zero]
                      have z0 : w3.cell? ⟨gx, 0, none⟩ = some (.int .i64 0) := hg3.b.cell 0
                      have z1 : w3.cell? ⟨gx, 1, none⟩ = some (.string ⟨#[]⟩) := hg3.b.cell 1
                      have z2 : w3.cell? ⟨gx, 2, none⟩ = some (.string ⟨#[]⟩) := hg3.b.cell 2
                      have z3 : w3.cell? ⟨gx, 3, none⟩ = some (.int .i64 0) := hg3.b.cell 3
                      have f0 := hg3.b.frozen 0
                      have f1 := hg3.b.frozen 1
                      have f2 := hg3.b.frozen 2
                      have f3 := hg3.b.frozen 3
                      have htu := tu_set4 hg3 hgW ⟨pv, pn, pt, pe⟩
                      obtain ⟨wx, hwx⟩ : ∃ wx, set4 w3 gx ⟨pv, pn, pt, pe⟩ = wx := ⟨_, rfl⟩
                      have hww := hw3.tu htu
                      have hll := htu.lr hl3 (by decide)
                      have hkk := htu.bz hk3 (by decide)
                      have hgg : Bz wx (H5 ++ G5) gx 31 (pcs ⟨pv, pn, pt, pe⟩) := by rw [← hwx]; exact ⟨hg3.b.set4 ⟨pv, pn, pt, pe⟩, hg3.n⟩
                      have hyx : Bz wx (H5 ++ G5) gy 31 (pcs ⟨pv, pn, pt, pe⟩) := by rw [← hwx]; exact ⟨hy3.b.ke (ke_set4 w3 gx ⟨pv, pn, pt, pe⟩) (by simpa using hneq), hy3.n⟩
                      rw [hwx] at hww hll hkk
                      refine wpAnyH_ready (rs := [11]) (by kernel_rfl) (by simp) (AllReadyH.cons rfl (fun K hK => ?_) AllReadyH.nil)
                      rw [if_pos (by kernel_rfl)]
                      go_simp
                      simp only [set4] at hwx
                      try rw [hwx]
                      refine hK.out _ _ hkk.b (fun hHeld => ?_)
                      try simp only [Act.put, List.setIfInBounds_toArray, List.set_cons_zero, List.set_cons_succ, List.getElem_toArray, List.getElem_cons_succ, List.getElem_cons_zero]
                      refine take_at (some 14) (i := 12) (v := ?_) rfl rfl (by kernel_rfl) (by kernel_rfl) (by kernel_rfl) (fun _ _ _ h => h) (Or.inl ⟨by kernel_rfl, ?_⟩) hHeld ?_
                      rotate_left
                      · intro wz hSw; go_simp; try (with_reducible rfl)
                      try simp only [Act.put, List.setIfInBounds_toArray, List.set_cons_zero, List.set_cons_succ, List.getElem_toArray, List.getElem_cons_succ, List.getElem_cons_zero]
                      refine wpAnyH_done (by kernel_rfl) ?_ _
                      have HWx20 := Lib.hid hww
                      have HXx20 := Lib.hid hll
                      have HBx20 := Lib.hid hkk
                      have HGx20 := Lib.hid hgg
                      have HYx20 := Lib.hid hyx
                      clear hHeld hwx htu hww hll hkk hgg hgW z0 z1 z2 z3 f0 f1 f2 f3 hw0 hl0 hk0 hw1 hl1 hk1 hw2 hl2 hk2 hw3 hl3 hk3 hy0 hy1 hy2 hy3 hyx
                      obtain ⟨uz, huz⟩ : ∃ q, wx = q := ⟨_, rfl⟩
                      rw [huz] at HWx20 HXx20 HBx20 HGx20 HYx20 ⊢
                      clear huz
                      have a0 : uz.cell? ⟨gx, 0, none⟩ = some (.int .i64 pv) := HGx20.out.b.cell 0
                      have a1 : uz.cell? ⟨gx, 1, none⟩ = some (.string pn) := HGx20.out.b.cell 1
                      have a2 : uz.cell? ⟨gx, 2, none⟩ = some (.string pt) := HGx20.out.b.cell 2
                      have a3 : uz.cell? ⟨gx, 3, none⟩ = some (.int .i64 pe) := HGx20.out.b.cell 3
                      have b0 : uz.cell? ⟨gy, 0, none⟩ = some (.int .i64 pv) := HYx20.out.b.cell 0
                      have b1 : uz.cell? ⟨gy, 1, none⟩ = some (.string pn) := HYx20.out.b.cell 1
                      have b2 : uz.cell? ⟨gy, 2, none⟩ = some (.string pt) := HYx20.out.b.cell 2
                      have b3 : uz.cell? ⟨gy, 3, none⟩ = some (.int .i64 pe) := HYx20.out.b.cell 3
                      have HPE := Lib.hid (eqP_same ⟨pv, pn, pt, pe⟩)
                      have hee : (er != er) = false := by simp
                      go_upto_region 28 with (refine wpList_nep (by kernel_rfl) (.tmp 108) (.tmp 109) _ rfl ⟨pv, pn, pt, pe⟩ ⟨pv, pn, pt, pe⟩ rfl rfl ?_; rw [HPE.out])
                      clear a0 a1 a2 a3 b0 b1 b2 b3
                      have HE2 := Lib.hid (show L.length = m ∧ m ≤ i + 1 ∧ b2.se ≤ ((i + 1 : Nat) : Int) ∧ Gk b2 ∧ ∀ s ∈ L, s.size ≤ 1099511627776 from ⟨HE.out.1, by have := HE.out.2.1; omega, by rw [HSE.out]; have := HE.out.2.2.1; omega, HG2.out, HE.out.2.2.2.2⟩)
                      obtain ⟨M, hM⟩ : ∃ M, b2.l.length = M := ⟨_, rfl⟩
                      have HM := Lib.hid hM
                      obtain ⟨A6, c6, hbk, _, _⟩ := HWx20.out.d.ex
                      rw [hM] at hbk
                      have HBK := Lib.hid hbk
                      clear hM hbk
                      go_upto_region 28 with fail
                      try simp only [List.cons_append, List.nil_append]
                      refine wp_region_held_drew (S := fun wz => Below uz.heap.size uz wz) (by kernel_rfl) ((Below.refl _ _).drew) (fun hHeld => ?_)
                      refine take_at (some 131) (i := 0) (v := ?_) rfl rfl (by kernel_rfl) (by kernel_rfl) (by kernel_rfl) (fun _ _ _ h => h) (Or.inl ⟨by kernel_rfl, ?_⟩) hHeld ?_
                      rotate_left
                      · intro wz hSw; go_simp; try (with_reducible rfl)
                      try simp only [Act.put, List.setIfInBounds_toArray, List.set_cons_zero, List.set_cons_succ, List.getElem_toArray, List.getElem_cons_succ, List.getElem_cons_zero]
                      refine take_at (some 133) (i := 2) (v := ?_) rfl rfl (by kernel_rfl) (by kernel_rfl) (by kernel_rfl) (fun _ _ _ h => h) (Or.inl ⟨by kernel_rfl, ?_⟩) hHeld ?_
                      rotate_left
                      · intro wz hSw; go_simp; try (with_reducible rfl)
                      try simp only [Act.put, List.setIfInBounds_toArray, List.set_cons_zero, List.set_cons_succ, List.getElem_toArray, List.getElem_cons_succ, List.getElem_cons_zero]
                      refine take_at (some 134) (i := 3) (v := ?_) rfl rfl (by kernel_rfl) (by kernel_rfl) (by kernel_rfl) (fun _ _ _ h => h) (Or.inl ⟨by kernel_rfl, ?_⟩) hHeld ?_
                      rotate_left
                      · intro wz hSw; go_simp; try (with_reducible rfl)
                      try simp only [Act.put, List.setIfInBounds_toArray, List.set_cons_zero, List.set_cons_succ, List.getElem_toArray, List.getElem_cons_succ, List.getElem_cons_zero]
                      refine take_at (some 135) (i := 4) (v := ?_) rfl rfl (by kernel_rfl) (by kernel_rfl) (by kernel_rfl) (fun _ _ _ h => h) (Or.inl ⟨by kernel_rfl, ?_⟩) hHeld ?_
                      rotate_left
                      · intro wz hSw; go_simp; try (with_reducible rfl)
                      try simp only [Act.put, List.setIfInBounds_toArray, List.set_cons_zero, List.set_cons_succ, List.getElem_toArray, List.getElem_cons_succ, List.getElem_cons_zero]
                      refine take_at (some 136) (i := 5) (v := ?_) rfl rfl (by kernel_rfl) (by kernel_rfl) (by kernel_rfl) (fun _ _ _ h => h) (Or.inl ⟨by kernel_rfl, ?_⟩) hHeld ?_
                      rotate_left
                      · intro wz hSw; have d2 : wz.cell? ⟨db, 2, none⟩ = some (.slice A6 M c6) := (HBK.out.below hSw HBK.out.lt).cell 2; go_simp; try (with_reducible rfl)
                      try simp only [Act.put, List.setIfInBounds_toArray, List.set_cons_zero, List.set_cons_succ, List.getElem_toArray, List.getElem_cons_succ, List.getElem_cons_zero]
                      refine take_at (some 137) (i := 6) (v := ?_) rfl rfl (by kernel_rfl) (by kernel_rfl) (by kernel_rfl) (fun _ _ _ h => h) (Or.inl ⟨by kernel_rfl, ?_⟩) hHeld ?_
                      rotate_left
                      · intro wz hSw; go_simp; try (with_reducible rfl)
                      try simp only [Act.put, List.setIfInBounds_toArray, List.set_cons_zero, List.set_cons_succ, List.getElem_toArray, List.getElem_cons_succ, List.getElem_cons_zero]
                      refine wpAnyH_ready (rs := [1]) (by kernel_rfl) (by simp) (AllReadyH.cons rfl (fun K hK => ?_) AllReadyH.nil)
                      rw [if_pos (by kernel_rfl)]
                      go_simp
                      refine (z_many (HWx20.out.z.on ((Below.refl uz.heap.size uz).drew)) M HM.out).mono ?_
                      rintro e y1 ⟨rfl, hb1⟩
                      try dsimp only
                      refine hK.out _ _ (((Below.refl uz.heap.size uz).drew).trans (hb1.mono ((Below.refl uz.heap.size uz).drew).size)) (fun hHeld => ?_)
                      try simp only [Act.put, List.setIfInBounds_toArray, List.set_cons_zero, List.set_cons_succ, List.getElem_toArray, List.getElem_cons_succ, List.getElem_cons_zero]
                      refine take_at (some 138) (i := 7) (v := ?_) rfl rfl (by kernel_rfl) (by kernel_rfl) (by kernel_rfl) (fun _ _ _ h => h) (Or.inl ⟨by kernel_rfl, ?_⟩) hHeld ?_
                      rotate_left
                      · intro wz hSw; go_simp; try (with_reducible rfl)
                      try simp only [Act.put, List.setIfInBounds_toArray, List.set_cons_zero, List.set_cons_succ, List.getElem_toArray, List.getElem_cons_succ, List.getElem_cons_zero]
                      refine wpAnyH_done (by kernel_rfl) ?_ _
                      have hbb := ((Below.refl uz.heap.size uz).drew).trans (hb1.mono ((Below.refl uz.heap.size uz).drew).size)
                      have HW9 := Lib.hid (HWx20.out.on hbb)
                      have HX9 := Lib.hid (HXx20.out.on hbb)
                      clear hb1 hbb hHeld
                      go_wp2_with fail
                      go_roundw
                      case rel => exact ⟨i + 1, m, b2, L, H5, G5, A1, c1, by omega, rfl, by go_num, HW9, HX9, HE2⟩
                      case measure => simp [intOf] <;> omega
                · rw [if_pos (by kernel_rfl)]
                  go_simp
                  try dsimp only
                  obtain ⟨w1, hw5⟩ : ∃ wq, w0.alloc (.cells #[.int .i64 0, .string ⟨#[]⟩, .string ⟨#[]⟩, .int .i64 0] 31) = wq := ⟨_, rfl⟩
                  obtain ⟨gx, hgw⟩ : ∃ gq, w0.heap.size = gq := ⟨_, rfl⟩
                  have hg1 : Bz w1 (H5 ++ G) gx 31 (pcs zeroPs) := by rw [← hw5, ← hgw]; exact Bz.new hw0.hi _ _
                  have hgW : W.heap.size ≤ gx := by rw [← hgw]; exact hw0.z.l.size
                  have hneq : gy ≠ gx := fun e => by have := hy0.b.lt; omega
                  have hbel : Below w0.heap.size w0 w1 := by rw [← hw5]; exact (Below.refl _ _).alloc (Nat.le_refl _) _
                  have hw1 := hw0.on hbel
                  have hl1 := hl0.on hbel
                  have hk1 := hk0.on hbel
                  have hy1 := hy0.on hbel
                  try rw [hw5]
                  try rw [hgw]
                  clear hw5 hgw hbel
                  refine hK.out _ _ hk1.b (fun hHeld => ?_)
                  try simp only [Act.put, List.setIfInBounds_toArray, List.set_cons_zero, List.set_cons_succ, List.getElem_toArray, List.getElem_cons_succ, List.getElem_cons_zero]
                  refine wpAnyH_ready (rs := [3]) (by kernel_rfl) (by simp) (AllReadyH.cons rfl (fun K hK => ?_) (AllReadyH.nil))
                  · rw [if_pos (by kernel_rfl)]
                    go_simp
                    refine (show Calls Tryd.prog 14 #[.agg #[.int .i64 2, .int .i64 ov, .string on, .string ot, .int .i64 oe, .string od, .int .i64 oa, .string ox, .string og], .slice A1 m c1] w1 _ from tshown_ok ⟨2, ⟨ov, on, ot, oe⟩, od, oa, ox, og⟩ A1 L m c1 w1 (Ow.rw_ (fun _ => rfl) hl1.o) HE.out.1 S HSS.out).mono ?_
                    rintro e w2 ⟨rfl, hb⟩
                    try dsimp only
                    have hw2 := hw1.on hb
                    have hl2 := hl1.on hb
                    have hk2 := hk1.on hb
                    have hy2 := hy1.on hb
                    have hg2 := hg1.on hb
                    clear hb
                    refine hK.out _ _ hk2.b (fun hHeld => ?_)
                    try simp only [Act.put, List.setIfInBounds_toArray, List.set_cons_zero, List.set_cons_succ, List.getElem_toArray, List.getElem_cons_succ, List.getElem_cons_zero]
                    refine wpAnyH_ready (rs := [6]) (by kernel_rfl) (by simp) (AllReadyH.cons rfl (fun K hK => ?_) (AllReadyH.nil))
                    · rw [if_pos (by kernel_rfl)]
                      go_simp
                      refine (r_redeem hw2.d HE.out.2.2.2.1 S og ⟨pv, pn, pt, pe⟩ er b2 HR.out).mono ?_
                      rintro e w3 ⟨G5, rfl, h1, h2⟩
                      try dsimp only
                      have hw3 := hw2.right h2 h1
                      have hl3 := hl2.step (h2.right H5)
                      have hk3 := hk2.step (h2.right H5)
                      have hy3 := hy2.step (h2.right H5)
                      have hg3 := hg2.step (h2.right H5)
                      clear h1 h2
                      refine hK.out _ _ hk3.b (fun hHeld => ?_)
                      try simp only [Act.put, List.setIfInBounds_toArray, List.set_cons_zero, List.set_cons_succ, List.getElem_toArray, List.getElem_cons_succ, List.getElem_cons_zero]
                      refine take_at (some 98) (i := 7) (v := ?_) rfl rfl (by kernel_rfl) (by kernel_rfl) (by kernel_rfl) (fun _ _ _ h => h) (Or.inl ⟨by kernel_rfl, ?_⟩) hHeld ?_
                      rotate_left
                      · intro wz hSw; go_simp; try (with_reducible rfl)
                      try simp only [Act.put, List.setIfInBounds_toArray, List.set_cons_zero, List.set_cons_succ, List.getElem_toArray, List.getElem_cons_succ, List.getElem_cons_zero]
                      refine take_at (some 106) (i := 8) (v := ?_) rfl rfl (by kernel_rfl) (by kernel_rfl) (by kernel_rfl) (fun _ _ _ h => h) (Or.inl ⟨by kernel_rfl, ?_⟩) hHeld ?_
                      rotate_left
                      · intro wz hSw; go_simp; try (with_reducible rfl)
                      try simp only [Act.put, List.setIfInBounds_toArray, List.set_cons_zero, List.set_cons_succ, List.getElem_toArray, List.getElem_cons_succ, List.getElem_cons_zero]
                      refine take_at (some 107) (i := 9) (v := ?_) rfl rfl (by kernel_rfl) (by kernel_rfl) (by kernel_rfl) (fun _ _ _ h => h) (Or.inl ⟨by kernel_rfl, ?_⟩) hHeld ?_
                      rotate_left
                      · intro wz hSw; go_simp; try (with_reducible rfl)
                      try simp only [Act.put, List.setIfInBounds_toArray, List.set_cons_zero, List.set_cons_succ, List.getElem_toArray, List.getElem_cons_succ, List.getElem_cons_zero]
                      have z0 : w3.cell? ⟨gx, 0, none⟩ = some (.int .i64 0) := hg3.b.cell 0
                      have z1 : w3.cell? ⟨gx, 1, none⟩ = some (.string ⟨#[]⟩) := hg3.b.cell 1
                      have z2 : w3.cell? ⟨gx, 2, none⟩ = some (.string ⟨#[]⟩) := hg3.b.cell 2
                      have z3 : w3.cell? ⟨gx, 3, none⟩ = some (.int .i64 0) := hg3.b.cell 3
                      have f0 := hg3.b.frozen 0
                      have f1 := hg3.b.frozen 1
                      have f2 := hg3.b.frozen 2
                      have f3 := hg3.b.frozen 3
                      have htu := tu_set4 hg3 hgW ⟨pv, pn, pt, pe⟩
                      obtain ⟨wx, hwx⟩ : ∃ wx, set4 w3 gx ⟨pv, pn, pt, pe⟩ = wx := ⟨_, rfl⟩
                      have hww := hw3.tu htu
                      have hll := htu.lr hl3 (by decide)
                      have hkk := htu.bz hk3 (by decide)
                      have hgg : Bz wx (H5 ++ G5) gx 31 (pcs ⟨pv, pn, pt, pe⟩) := by rw [← hwx]; exact ⟨hg3.b.set4 ⟨pv, pn, pt, pe⟩, hg3.n⟩
                      have hyx : Bz wx (H5 ++ G5) gy 31 (pcs ⟨pv, pn, pt, pe⟩) := by rw [← hwx]; exact ⟨hy3.b.ke (ke_set4 w3 gx ⟨pv, pn, pt, pe⟩) (by simpa using hneq), hy3.n⟩
                      rw [hwx] at hww hll hkk
                      refine wpAnyH_ready (rs := [11]) (by kernel_rfl) (by simp) (AllReadyH.cons rfl (fun K hK => ?_) AllReadyH.nil)
                      rw [if_pos (by kernel_rfl)]
                      go_simp
                      simp only [set4] at hwx
                      try rw [hwx]
                      refine hK.out _ _ hkk.b (fun hHeld => ?_)
                      try simp only [Act.put, List.setIfInBounds_toArray, List.set_cons_zero, List.set_cons_succ, List.getElem_toArray, List.getElem_cons_succ, List.getElem_cons_zero]
                      refine take_at (some 14) (i := 12) (v := ?_) rfl rfl (by kernel_rfl) (by kernel_rfl) (by kernel_rfl) (fun _ _ _ h => h) (Or.inl ⟨by kernel_rfl, ?_⟩) hHeld ?_
                      rotate_left
                      · intro wz hSw; go_simp; try (with_reducible rfl)
                      try simp only [Act.put, List.setIfInBounds_toArray, List.set_cons_zero, List.set_cons_succ, List.getElem_toArray, List.getElem_cons_succ, List.getElem_cons_zero]
                      refine wpAnyH_done (by kernel_rfl) ?_ _
                      have HWx20 := Lib.hid hww
                      have HXx20 := Lib.hid hll
                      have HBx20 := Lib.hid hkk
                      have HGx20 := Lib.hid hgg
                      have HYx20 := Lib.hid hyx
                      clear hHeld hwx htu hww hll hkk hgg hgW z0 z1 z2 z3 f0 f1 f2 f3 hw0 hl0 hk0 hw1 hl1 hk1 hw2 hl2 hk2 hw3 hl3 hk3 hy0 hy1 hy2 hy3 hyx
                      obtain ⟨uz, huz⟩ : ∃ q, wx = q := ⟨_, rfl⟩
                      rw [huz] at HWx20 HXx20 HBx20 HGx20 HYx20 ⊢
                      clear huz
                      have a0 : uz.cell? ⟨gx, 0, none⟩ = some (.int .i64 pv) := HGx20.out.b.cell 0
                      have a1 : uz.cell? ⟨gx, 1, none⟩ = some (.string pn) := HGx20.out.b.cell 1
                      have a2 : uz.cell? ⟨gx, 2, none⟩ = some (.string pt) := HGx20.out.b.cell 2
                      have a3 : uz.cell? ⟨gx, 3, none⟩ = some (.int .i64 pe) := HGx20.out.b.cell 3
                      have b0 : uz.cell? ⟨gy, 0, none⟩ = some (.int .i64 pv) := HYx20.out.b.cell 0
                      have b1 : uz.cell? ⟨gy, 1, none⟩ = some (.string pn) := HYx20.out.b.cell 1
                      have b2 : uz.cell? ⟨gy, 2, none⟩ = some (.string pt) := HYx20.out.b.cell 2
                      have b3 : uz.cell? ⟨gy, 3, none⟩ = some (.int .i64 pe) := HYx20.out.b.cell 3
                      have HPE := Lib.hid (eqP_same ⟨pv, pn, pt, pe⟩)
                      have hee : (er != er) = false := by simp
                      go_upto_region 28 with (refine wpList_nep (by kernel_rfl) (.tmp 108) (.tmp 109) _ rfl ⟨pv, pn, pt, pe⟩ ⟨pv, pn, pt, pe⟩ rfl rfl ?_; rw [HPE.out])
                      clear a0 a1 a2 a3 b0 b1 b2 b3
                      have HE2 := Lib.hid (show L.length = m ∧ m ≤ i + 1 ∧ b2.se ≤ ((i + 1 : Nat) : Int) ∧ Gk b2 ∧ ∀ s ∈ L, s.size ≤ 1099511627776 from ⟨HE.out.1, by have := HE.out.2.1; omega, by rw [HSE.out]; have := HE.out.2.2.1; omega, HG2.out, HE.out.2.2.2.2⟩)
                      obtain ⟨M, hM⟩ : ∃ M, b2.l.length = M := ⟨_, rfl⟩
                      have HM := Lib.hid hM
                      obtain ⟨A6, c6, hbk, _, _⟩ := HWx20.out.d.ex
                      rw [hM] at hbk
                      have HBK := Lib.hid hbk
                      clear hM hbk
                      go_upto_region 28 with fail
                      try simp only [List.cons_append, List.nil_append]
                      refine wp_region_held_drew (S := fun wz => Below uz.heap.size uz wz) (by kernel_rfl) ((Below.refl _ _).drew) (fun hHeld => ?_)
                      refine take_at (some 131) (i := 0) (v := ?_) rfl rfl (by kernel_rfl) (by kernel_rfl) (by kernel_rfl) (fun _ _ _ h => h) (Or.inl ⟨by kernel_rfl, ?_⟩) hHeld ?_
                      rotate_left
                      · intro wz hSw; go_simp; try (with_reducible rfl)
                      try simp only [Act.put, List.setIfInBounds_toArray, List.set_cons_zero, List.set_cons_succ, List.getElem_toArray, List.getElem_cons_succ, List.getElem_cons_zero]
                      refine take_at (some 133) (i := 2) (v := ?_) rfl rfl (by kernel_rfl) (by kernel_rfl) (by kernel_rfl) (fun _ _ _ h => h) (Or.inl ⟨by kernel_rfl, ?_⟩) hHeld ?_
                      rotate_left
                      · intro wz hSw; go_simp; try (with_reducible rfl)
                      try simp only [Act.put, List.setIfInBounds_toArray, List.set_cons_zero, List.set_cons_succ, List.getElem_toArray, List.getElem_cons_succ, List.getElem_cons_zero]
                      refine take_at (some 134) (i := 3) (v := ?_) rfl rfl (by kernel_rfl) (by kernel_rfl) (by kernel_rfl) (fun _ _ _ h => h) (Or.inl ⟨by kernel_rfl, ?_⟩) hHeld ?_
                      rotate_left
                      · intro wz hSw; go_simp; try (with_reducible rfl)
                      try simp only [Act.put, List.setIfInBounds_toArray, List.set_cons_zero, List.set_cons_succ, List.getElem_toArray, List.getElem_cons_succ, List.getElem_cons_zero]
                      refine take_at (some 135) (i := 4) (v := ?_) rfl rfl (by kernel_rfl) (by kernel_rfl) (by kernel_rfl) (fun _ _ _ h => h) (Or.inl ⟨by kernel_rfl, ?_⟩) hHeld ?_
                      rotate_left
                      · intro wz hSw; go_simp; try (with_reducible rfl)
                      try simp only [Act.put, List.setIfInBounds_toArray, List.set_cons_zero, List.set_cons_succ, List.getElem_toArray, List.getElem_cons_succ, List.getElem_cons_zero]
                      refine take_at (some 136) (i := 5) (v := ?_) rfl rfl (by kernel_rfl) (by kernel_rfl) (by kernel_rfl) (fun _ _ _ h => h) (Or.inl ⟨by kernel_rfl, ?_⟩) hHeld ?_
                      rotate_left
                      · intro wz hSw; have d2 : wz.cell? ⟨db, 2, none⟩ = some (.slice A6 M c6) := (HBK.out.below hSw HBK.out.lt).cell 2; go_simp; try (with_reducible rfl)
                      try simp only [Act.put, List.setIfInBounds_toArray, List.set_cons_zero, List.set_cons_succ, List.getElem_toArray, List.getElem_cons_succ, List.getElem_cons_zero]
                      refine take_at (some 137) (i := 6) (v := ?_) rfl rfl (by kernel_rfl) (by kernel_rfl) (by kernel_rfl) (fun _ _ _ h => h) (Or.inl ⟨by kernel_rfl, ?_⟩) hHeld ?_
                      rotate_left
                      · intro wz hSw; go_simp; try (with_reducible rfl)
                      try simp only [Act.put, List.setIfInBounds_toArray, List.set_cons_zero, List.set_cons_succ, List.getElem_toArray, List.getElem_cons_succ, List.getElem_cons_zero]
                      refine wpAnyH_ready (rs := [1]) (by kernel_rfl) (by simp) (AllReadyH.cons rfl (fun K hK => ?_) AllReadyH.nil)
                      rw [if_pos (by kernel_rfl)]
                      go_simp
                      refine (z_many (HWx20.out.z.on ((Below.refl uz.heap.size uz).drew)) M HM.out).mono ?_
                      rintro e y1 ⟨rfl, hb1⟩
                      try dsimp only
                      refine hK.out _ _ (((Below.refl uz.heap.size uz).drew).trans (hb1.mono ((Below.refl uz.heap.size uz).drew).size)) (fun hHeld => ?_)
                      try simp only [Act.put, List.setIfInBounds_toArray, List.set_cons_zero, List.set_cons_succ, List.getElem_toArray, List.getElem_cons_succ, List.getElem_cons_zero]
                      refine take_at (some 138) (i := 7) (v := ?_) rfl rfl (by kernel_rfl) (by kernel_rfl) (by kernel_rfl) (fun _ _ _ h => h) (Or.inl ⟨by kernel_rfl, ?_⟩) hHeld ?_
                      rotate_left
                      · intro wz hSw; go_simp; try (with_reducible rfl)
                      try simp only [Act.put, List.setIfInBounds_toArray, List.set_cons_zero, List.set_cons_succ, List.getElem_toArray, List.getElem_cons_succ, List.getElem_cons_zero]
                      refine wpAnyH_done (by kernel_rfl) ?_ _
                      have hbb := ((Below.refl uz.heap.size uz).drew).trans (hb1.mono ((Below.refl uz.heap.size uz).drew).size)
                      have HW9 := Lib.hid (HWx20.out.on hbb)
                      have HX9 := Lib.hid (HXx20.out.on hbb)
                      clear hb1 hbb hHeld
                      go_wp2_with fail
                      go_roundw
                      case rel => exact ⟨i + 1, m, b2, L, H5, G5, A1, c1, by omega, rfl, by go_num, HW9, HX9, HE2⟩
                      case measure => simp [intOf] <;> omega
        · have h2b : (ow == 2) = false := by simp [h2]
          by_cases h3 : ow = 3
          · subst h3
            obtain ⟨⟨is, b2⟩, hR⟩ : ∃ R, voiT b ov = R := ⟨_, rfl⟩
            have HR := Lib.hid hR
            have HG2 := Lib.hid (show Gk b2 by have := gk_voi HE.out.2.2.2.1 ov; rw [hR] at this; exact this)
            have HSE := Lib.hid (show b2.se = b.se by have h1 := congrArg (fun r => r.2.se) hR; exact h1.symm)
            clear hR
            go_upto_region 25 with (go_at_call 16; (with_reducible refine (z_void HWv.out.z HE.out.2.2.2.1 ov is b2 HR.out).mono ?_); rintro e u5 ⟨H5, rfl, h1, h2⟩; have HW5 := Lib.hid (HWv.out.left h2 h1); have HX5 := Lib.hid (HXv.out.step (h2.left G)); have HB5 := Lib.hid (HB.out.step (h2.left G)); clear h1 h2)
            clear e0 e1 e2 e3 e4 e5 e6 e7 e8
            have e1 : u5.cell? ⟨kb, 1, none⟩ = some (.int .i64 ov) := HB5.out.b.cell 1
            go_upto_region 26 with (go_at_call 17; (with_reducible refine (t_void HW5.out.d ov is b2 HR.out HE.out.2.2.2.1.few).mono ?_); rintro e u6 ⟨G5, rfl, h1, h2⟩; have HW6 := Lib.hid (HW5.out.right h2 h1); have HX6 := Lib.hid (HX5.out.step (h2.right H5)); clear h1 h2)
            clear e1
            have hss : (is != is) = false := by simp
            have HE2 := Lib.hid (show L.length = m ∧ m ≤ i + 1 ∧ b2.se ≤ ((i + 1 : Nat) : Int) ∧ Gk b2 ∧ ∀ s ∈ L, s.size ≤ 1099511627776 from ⟨HE.out.1, by have := HE.out.2.1; omega, by rw [HSE.out]; have := HE.out.2.2.1; omega, HG2.out, HE.out.2.2.2.2⟩)
            obtain ⟨M, hM⟩ : ∃ M, b2.l.length = M := ⟨_, rfl⟩
            have HM := Lib.hid hM
            obtain ⟨A6, c6, hbk, _, _⟩ := HW6.out.d.ex
            rw [hM] at hbk
            have HBK := Lib.hid hbk
            clear hM hbk
            go_upto_region 28 with fail
            try simp only [List.cons_append, List.nil_append]
            refine wp_region_held_drew (S := fun wz => Below u6.heap.size u6 wz) (by kernel_rfl) ((Below.refl _ _).drew) (fun hHeld => ?_)
            refine take_at (some 131) (i := 0) (v := ?_) rfl rfl (by kernel_rfl) (by kernel_rfl) (by kernel_rfl) (fun _ _ _ h => h) (Or.inl ⟨by kernel_rfl, ?_⟩) hHeld ?_
            rotate_left
            · intro wz hSw; go_simp; try (with_reducible rfl)
            try simp only [Act.put, List.setIfInBounds_toArray, List.set_cons_zero, List.set_cons_succ, List.getElem_toArray, List.getElem_cons_succ, List.getElem_cons_zero]
            refine take_at (some 133) (i := 2) (v := ?_) rfl rfl (by kernel_rfl) (by kernel_rfl) (by kernel_rfl) (fun _ _ _ h => h) (Or.inl ⟨by kernel_rfl, ?_⟩) hHeld ?_
            rotate_left
            · intro wz hSw; go_simp; try (with_reducible rfl)
            try simp only [Act.put, List.setIfInBounds_toArray, List.set_cons_zero, List.set_cons_succ, List.getElem_toArray, List.getElem_cons_succ, List.getElem_cons_zero]
            refine take_at (some 134) (i := 3) (v := ?_) rfl rfl (by kernel_rfl) (by kernel_rfl) (by kernel_rfl) (fun _ _ _ h => h) (Or.inl ⟨by kernel_rfl, ?_⟩) hHeld ?_
            rotate_left
            · intro wz hSw; go_simp; try (with_reducible rfl)
            try simp only [Act.put, List.setIfInBounds_toArray, List.set_cons_zero, List.set_cons_succ, List.getElem_toArray, List.getElem_cons_succ, List.getElem_cons_zero]
            refine take_at (some 135) (i := 4) (v := ?_) rfl rfl (by kernel_rfl) (by kernel_rfl) (by kernel_rfl) (fun _ _ _ h => h) (Or.inl ⟨by kernel_rfl, ?_⟩) hHeld ?_
            rotate_left
            · intro wz hSw; go_simp; try (with_reducible rfl)
            try simp only [Act.put, List.setIfInBounds_toArray, List.set_cons_zero, List.set_cons_succ, List.getElem_toArray, List.getElem_cons_succ, List.getElem_cons_zero]
            refine take_at (some 136) (i := 5) (v := ?_) rfl rfl (by kernel_rfl) (by kernel_rfl) (by kernel_rfl) (fun _ _ _ h => h) (Or.inl ⟨by kernel_rfl, ?_⟩) hHeld ?_
            rotate_left
            · intro wz hSw; have d2 : wz.cell? ⟨db, 2, none⟩ = some (.slice A6 M c6) := (HBK.out.below hSw HBK.out.lt).cell 2; go_simp; try (with_reducible rfl)
            try simp only [Act.put, List.setIfInBounds_toArray, List.set_cons_zero, List.set_cons_succ, List.getElem_toArray, List.getElem_cons_succ, List.getElem_cons_zero]
            refine take_at (some 137) (i := 6) (v := ?_) rfl rfl (by kernel_rfl) (by kernel_rfl) (by kernel_rfl) (fun _ _ _ h => h) (Or.inl ⟨by kernel_rfl, ?_⟩) hHeld ?_
            rotate_left
            · intro wz hSw; go_simp; try (with_reducible rfl)
            try simp only [Act.put, List.setIfInBounds_toArray, List.set_cons_zero, List.set_cons_succ, List.getElem_toArray, List.getElem_cons_succ, List.getElem_cons_zero]
            refine wpAnyH_ready (rs := [1]) (by kernel_rfl) (by simp) (AllReadyH.cons rfl (fun K hK => ?_) AllReadyH.nil)
            rw [if_pos (by kernel_rfl)]
            go_simp
            refine (z_many (HW6.out.z.on ((Below.refl u6.heap.size u6).drew)) M HM.out).mono ?_
            rintro e y1 ⟨rfl, hb1⟩
            try dsimp only
            refine hK.out _ _ (((Below.refl u6.heap.size u6).drew).trans (hb1.mono ((Below.refl u6.heap.size u6).drew).size)) (fun hHeld => ?_)
            try simp only [Act.put, List.setIfInBounds_toArray, List.set_cons_zero, List.set_cons_succ, List.getElem_toArray, List.getElem_cons_succ, List.getElem_cons_zero]
            refine take_at (some 138) (i := 7) (v := ?_) rfl rfl (by kernel_rfl) (by kernel_rfl) (by kernel_rfl) (fun _ _ _ h => h) (Or.inl ⟨by kernel_rfl, ?_⟩) hHeld ?_
            rotate_left
            · intro wz hSw; go_simp; try (with_reducible rfl)
            try simp only [Act.put, List.setIfInBounds_toArray, List.set_cons_zero, List.set_cons_succ, List.getElem_toArray, List.getElem_cons_succ, List.getElem_cons_zero]
            refine wpAnyH_done (by kernel_rfl) ?_ _
            have hbb := ((Below.refl u6.heap.size u6).drew).trans (hb1.mono ((Below.refl u6.heap.size u6).drew).size)
            have HW9 := Lib.hid (HW6.out.on hbb)
            have HX9 := Lib.hid (HX6.out.on hbb)
            clear hb1 hbb hHeld
            go_wp2_with fail
            go_roundw
            case rel => exact ⟨i + 1, m, b2, L, H5, G5, A1, c1, by omega, rfl, by go_num, HW9, HX9, HE2⟩
            case measure => simp [intOf] <;> omega
          · have h3b : (ow == 3) = false := by simp [h3]
            rcases iss_cases b ⟨ov, on, ot, oe⟩ (tixT key od) with ⟨_, hp⟩ | ⟨_, _, hp⟩ | ⟨hnew, hlt, hp⟩
            · have HR := Lib.hid hp
              clear hp
              go_upto_region 13 with (go_at_call 18; (with_reducible refine (z_issue HWv.out.z HE.out.2.2.2.1 ⟨ov, on, ot, oe⟩ od ⟨#[]⟩ 4 b HR.out HK3.out (Nat.le_trans HOD.out.1 (by decide)) (by have := HE.out.2.2.1; omega) HON.out.1 HON.out.2 HG.out).mono ?_); rintro e u5 ⟨H5, rfl, h1, h2⟩; have HW5 := Lib.hid (HWv.out.left h2 h1); have HX5 := Lib.hid (HXv.out.step (h2.left G)); have HB5 := Lib.hid (HB.out.step (h2.left G)); clear h1 h2)
              clear e0 e1 e2 e3 e4 e5 e6 e7 e8
              have e0 : u5.cell? ⟨kb, 0, none⟩ = some (.int .i64 ow) := HB5.out.b.cell 0
              have e1 : u5.cell? ⟨kb, 1, none⟩ = some (.int .i64 ov) := HB5.out.b.cell 1
              have e2 : u5.cell? ⟨kb, 2, none⟩ = some (.string on) := HB5.out.b.cell 2
              have e3 : u5.cell? ⟨kb, 3, none⟩ = some (.string ot) := HB5.out.b.cell 3
              have e4 : u5.cell? ⟨kb, 4, none⟩ = some (.int .i64 oe) := HB5.out.b.cell 4
              have e5 : u5.cell? ⟨kb, 5, none⟩ = some (.string od) := HB5.out.b.cell 5
              have e6 : u5.cell? ⟨kb, 6, none⟩ = some (.int .i64 oa) := HB5.out.b.cell 6
              have e7 : u5.cell? ⟨kb, 7, none⟩ = some (.string ox) := HB5.out.b.cell 7
              have e8 : u5.cell? ⟨kb, 8, none⟩ = some (.string og) := HB5.out.b.cell 8
              go_upto_region 14 with (go_at_call 19; (with_reducible refine (r_issue HW5.out.d HE.out.2.2.2.1 ⟨ov, on, ot, oe⟩ od ⟨#[]⟩ 4 b HR.out HK3.out HOD.out.1 (by have := HE.out.2.2.1; omega)).mono ?_); rintro e u6 ⟨G5, rfl, h1, h2⟩; have HW6 := Lib.hid (HW5.out.right h2 h1); have HX6 := Lib.hid (HX5.out.step (h2.right H5)); clear h1 h2)
              clear e0 e1 e2 e3 e4 e5 e6 e7 e8
              have HE2 := Lib.hid (show L.length = m ∧ m ≤ i + 1 ∧ b.se ≤ ((i + 1 : Nat) : Int) ∧ Gk b ∧ ∀ s ∈ L, s.size ≤ 1099511627776 from ⟨HE.out.1, by have := HE.out.2.1; omega, by have := HE.out.2.2.1; omega, HE.out.2.2.2⟩)
              obtain ⟨M, hM⟩ : ∃ M, b.l.length = M := ⟨_, rfl⟩
              have HM := Lib.hid hM
              obtain ⟨A6, c6, hbk, _, _⟩ := HW6.out.d.ex
              rw [hM] at hbk
              have HBK := Lib.hid hbk
              clear hM hbk
              go_upto_region 28 with fail
              try simp only [List.cons_append, List.nil_append]
              refine wp_region_held_drew (S := fun wz => Below u6.heap.size u6 wz) (by kernel_rfl) ((Below.refl _ _).drew) (fun hHeld => ?_)
              refine take_at (some 131) (i := 0) (v := ?_) rfl rfl (by kernel_rfl) (by kernel_rfl) (by kernel_rfl) (fun _ _ _ h => h) (Or.inl ⟨by kernel_rfl, ?_⟩) hHeld ?_
              rotate_left
              · intro wz hSw; go_simp; try (with_reducible rfl)
              try simp only [Act.put, List.setIfInBounds_toArray, List.set_cons_zero, List.set_cons_succ, List.getElem_toArray, List.getElem_cons_succ, List.getElem_cons_zero]
              refine take_at (some 133) (i := 2) (v := ?_) rfl rfl (by kernel_rfl) (by kernel_rfl) (by kernel_rfl) (fun _ _ _ h => h) (Or.inl ⟨by kernel_rfl, ?_⟩) hHeld ?_
              rotate_left
              · intro wz hSw; go_simp; try (with_reducible rfl)
              try simp only [Act.put, List.setIfInBounds_toArray, List.set_cons_zero, List.set_cons_succ, List.getElem_toArray, List.getElem_cons_succ, List.getElem_cons_zero]
              refine take_at (some 134) (i := 3) (v := ?_) rfl rfl (by kernel_rfl) (by kernel_rfl) (by kernel_rfl) (fun _ _ _ h => h) (Or.inl ⟨by kernel_rfl, ?_⟩) hHeld ?_
              rotate_left
              · intro wz hSw; go_simp; try (with_reducible rfl)
              try simp only [Act.put, List.setIfInBounds_toArray, List.set_cons_zero, List.set_cons_succ, List.getElem_toArray, List.getElem_cons_succ, List.getElem_cons_zero]
              refine take_at (some 135) (i := 4) (v := ?_) rfl rfl (by kernel_rfl) (by kernel_rfl) (by kernel_rfl) (fun _ _ _ h => h) (Or.inl ⟨by kernel_rfl, ?_⟩) hHeld ?_
              rotate_left
              · intro wz hSw; go_simp; try (with_reducible rfl)
              try simp only [Act.put, List.setIfInBounds_toArray, List.set_cons_zero, List.set_cons_succ, List.getElem_toArray, List.getElem_cons_succ, List.getElem_cons_zero]
              refine take_at (some 136) (i := 5) (v := ?_) rfl rfl (by kernel_rfl) (by kernel_rfl) (by kernel_rfl) (fun _ _ _ h => h) (Or.inl ⟨by kernel_rfl, ?_⟩) hHeld ?_
              rotate_left
              · intro wz hSw; have d2 : wz.cell? ⟨db, 2, none⟩ = some (.slice A6 M c6) := (HBK.out.below hSw HBK.out.lt).cell 2; go_simp; try (with_reducible rfl)
              try simp only [Act.put, List.setIfInBounds_toArray, List.set_cons_zero, List.set_cons_succ, List.getElem_toArray, List.getElem_cons_succ, List.getElem_cons_zero]
              refine take_at (some 137) (i := 6) (v := ?_) rfl rfl (by kernel_rfl) (by kernel_rfl) (by kernel_rfl) (fun _ _ _ h => h) (Or.inl ⟨by kernel_rfl, ?_⟩) hHeld ?_
              rotate_left
              · intro wz hSw; go_simp; try (with_reducible rfl)
              try simp only [Act.put, List.setIfInBounds_toArray, List.set_cons_zero, List.set_cons_succ, List.getElem_toArray, List.getElem_cons_succ, List.getElem_cons_zero]
              refine wpAnyH_ready (rs := [1]) (by kernel_rfl) (by simp) (AllReadyH.cons rfl (fun K hK => ?_) AllReadyH.nil)
              rw [if_pos (by kernel_rfl)]
              go_simp
              refine (z_many (HW6.out.z.on ((Below.refl u6.heap.size u6).drew)) M HM.out).mono ?_
              rintro e y1 ⟨rfl, hb1⟩
              try dsimp only
              refine hK.out _ _ (((Below.refl u6.heap.size u6).drew).trans (hb1.mono ((Below.refl u6.heap.size u6).drew).size)) (fun hHeld => ?_)
              try simp only [Act.put, List.setIfInBounds_toArray, List.set_cons_zero, List.set_cons_succ, List.getElem_toArray, List.getElem_cons_succ, List.getElem_cons_zero]
              refine take_at (some 138) (i := 7) (v := ?_) rfl rfl (by kernel_rfl) (by kernel_rfl) (by kernel_rfl) (fun _ _ _ h => h) (Or.inl ⟨by kernel_rfl, ?_⟩) hHeld ?_
              rotate_left
              · intro wz hSw; go_simp; try (with_reducible rfl)
              try simp only [Act.put, List.setIfInBounds_toArray, List.set_cons_zero, List.set_cons_succ, List.getElem_toArray, List.getElem_cons_succ, List.getElem_cons_zero]
              refine wpAnyH_done (by kernel_rfl) ?_ _
              have hbb := ((Below.refl u6.heap.size u6).drew).trans (hb1.mono ((Below.refl u6.heap.size u6).drew).size)
              have HW9 := Lib.hid (HW6.out.on hbb)
              have HX9 := Lib.hid (HX6.out.on hbb)
              clear hb1 hbb hHeld
              go_wp2_with fail
              go_roundw
              case rel => exact ⟨i + 1, m, b, L, H5, G5, A1, c1, by omega, rfl, by go_num, HW9, HX9, HE2⟩
              case measure => simp [intOf] <;> omega
            · have HR := Lib.hid hp
              clear hp
              go_upto_region 13 with (go_at_call 18; (with_reducible refine (z_issue HWv.out.z HE.out.2.2.2.1 ⟨ov, on, ot, oe⟩ od ⟨#[]⟩ 2 b HR.out HK3.out (Nat.le_trans HOD.out.1 (by decide)) (by have := HE.out.2.2.1; omega) HON.out.1 HON.out.2 HG.out).mono ?_); rintro e u5 ⟨H5, rfl, h1, h2⟩; have HW5 := Lib.hid (HWv.out.left h2 h1); have HX5 := Lib.hid (HXv.out.step (h2.left G)); have HB5 := Lib.hid (HB.out.step (h2.left G)); clear h1 h2)
              clear e0 e1 e2 e3 e4 e5 e6 e7 e8
              have e0 : u5.cell? ⟨kb, 0, none⟩ = some (.int .i64 ow) := HB5.out.b.cell 0
              have e1 : u5.cell? ⟨kb, 1, none⟩ = some (.int .i64 ov) := HB5.out.b.cell 1
              have e2 : u5.cell? ⟨kb, 2, none⟩ = some (.string on) := HB5.out.b.cell 2
              have e3 : u5.cell? ⟨kb, 3, none⟩ = some (.string ot) := HB5.out.b.cell 3
              have e4 : u5.cell? ⟨kb, 4, none⟩ = some (.int .i64 oe) := HB5.out.b.cell 4
              have e5 : u5.cell? ⟨kb, 5, none⟩ = some (.string od) := HB5.out.b.cell 5
              have e6 : u5.cell? ⟨kb, 6, none⟩ = some (.int .i64 oa) := HB5.out.b.cell 6
              have e7 : u5.cell? ⟨kb, 7, none⟩ = some (.string ox) := HB5.out.b.cell 7
              have e8 : u5.cell? ⟨kb, 8, none⟩ = some (.string og) := HB5.out.b.cell 8
              go_upto_region 14 with (go_at_call 19; (with_reducible refine (r_issue HW5.out.d HE.out.2.2.2.1 ⟨ov, on, ot, oe⟩ od ⟨#[]⟩ 2 b HR.out HK3.out HOD.out.1 (by have := HE.out.2.2.1; omega)).mono ?_); rintro e u6 ⟨G5, rfl, h1, h2⟩; have HW6 := Lib.hid (HW5.out.right h2 h1); have HX6 := Lib.hid (HX5.out.step (h2.right H5)); clear h1 h2)
              clear e0 e1 e2 e3 e4 e5 e6 e7 e8
              have HE2 := Lib.hid (show L.length = m ∧ m ≤ i + 1 ∧ b.se ≤ ((i + 1 : Nat) : Int) ∧ Gk b ∧ ∀ s ∈ L, s.size ≤ 1099511627776 from ⟨HE.out.1, by have := HE.out.2.1; omega, by have := HE.out.2.2.1; omega, HE.out.2.2.2⟩)
              obtain ⟨M, hM⟩ : ∃ M, b.l.length = M := ⟨_, rfl⟩
              have HM := Lib.hid hM
              obtain ⟨A6, c6, hbk, _, _⟩ := HW6.out.d.ex
              rw [hM] at hbk
              have HBK := Lib.hid hbk
              clear hM hbk
              go_upto_region 28 with fail
              try simp only [List.cons_append, List.nil_append]
              refine wp_region_held_drew (S := fun wz => Below u6.heap.size u6 wz) (by kernel_rfl) ((Below.refl _ _).drew) (fun hHeld => ?_)
              refine take_at (some 131) (i := 0) (v := ?_) rfl rfl (by kernel_rfl) (by kernel_rfl) (by kernel_rfl) (fun _ _ _ h => h) (Or.inl ⟨by kernel_rfl, ?_⟩) hHeld ?_
              rotate_left
              · intro wz hSw; go_simp; try (with_reducible rfl)
              try simp only [Act.put, List.setIfInBounds_toArray, List.set_cons_zero, List.set_cons_succ, List.getElem_toArray, List.getElem_cons_succ, List.getElem_cons_zero]
              refine take_at (some 133) (i := 2) (v := ?_) rfl rfl (by kernel_rfl) (by kernel_rfl) (by kernel_rfl) (fun _ _ _ h => h) (Or.inl ⟨by kernel_rfl, ?_⟩) hHeld ?_
              rotate_left
              · intro wz hSw; go_simp; try (with_reducible rfl)
              try simp only [Act.put, List.setIfInBounds_toArray, List.set_cons_zero, List.set_cons_succ, List.getElem_toArray, List.getElem_cons_succ, List.getElem_cons_zero]
              refine take_at (some 134) (i := 3) (v := ?_) rfl rfl (by kernel_rfl) (by kernel_rfl) (by kernel_rfl) (fun _ _ _ h => h) (Or.inl ⟨by kernel_rfl, ?_⟩) hHeld ?_
              rotate_left
              · intro wz hSw; go_simp; try (with_reducible rfl)
              try simp only [Act.put, List.setIfInBounds_toArray, List.set_cons_zero, List.set_cons_succ, List.getElem_toArray, List.getElem_cons_succ, List.getElem_cons_zero]
              refine take_at (some 135) (i := 4) (v := ?_) rfl rfl (by kernel_rfl) (by kernel_rfl) (by kernel_rfl) (fun _ _ _ h => h) (Or.inl ⟨by kernel_rfl, ?_⟩) hHeld ?_
              rotate_left
              · intro wz hSw; go_simp; try (with_reducible rfl)
              try simp only [Act.put, List.setIfInBounds_toArray, List.set_cons_zero, List.set_cons_succ, List.getElem_toArray, List.getElem_cons_succ, List.getElem_cons_zero]
              refine take_at (some 136) (i := 5) (v := ?_) rfl rfl (by kernel_rfl) (by kernel_rfl) (by kernel_rfl) (fun _ _ _ h => h) (Or.inl ⟨by kernel_rfl, ?_⟩) hHeld ?_
              rotate_left
              · intro wz hSw; have d2 : wz.cell? ⟨db, 2, none⟩ = some (.slice A6 M c6) := (HBK.out.below hSw HBK.out.lt).cell 2; go_simp; try (with_reducible rfl)
              try simp only [Act.put, List.setIfInBounds_toArray, List.set_cons_zero, List.set_cons_succ, List.getElem_toArray, List.getElem_cons_succ, List.getElem_cons_zero]
              refine take_at (some 137) (i := 6) (v := ?_) rfl rfl (by kernel_rfl) (by kernel_rfl) (by kernel_rfl) (fun _ _ _ h => h) (Or.inl ⟨by kernel_rfl, ?_⟩) hHeld ?_
              rotate_left
              · intro wz hSw; go_simp; try (with_reducible rfl)
              try simp only [Act.put, List.setIfInBounds_toArray, List.set_cons_zero, List.set_cons_succ, List.getElem_toArray, List.getElem_cons_succ, List.getElem_cons_zero]
              refine wpAnyH_ready (rs := [1]) (by kernel_rfl) (by simp) (AllReadyH.cons rfl (fun K hK => ?_) AllReadyH.nil)
              rw [if_pos (by kernel_rfl)]
              go_simp
              refine (z_many (HW6.out.z.on ((Below.refl u6.heap.size u6).drew)) M HM.out).mono ?_
              rintro e y1 ⟨rfl, hb1⟩
              try dsimp only
              refine hK.out _ _ (((Below.refl u6.heap.size u6).drew).trans (hb1.mono ((Below.refl u6.heap.size u6).drew).size)) (fun hHeld => ?_)
              try simp only [Act.put, List.setIfInBounds_toArray, List.set_cons_zero, List.set_cons_succ, List.getElem_toArray, List.getElem_cons_succ, List.getElem_cons_zero]
              refine take_at (some 138) (i := 7) (v := ?_) rfl rfl (by kernel_rfl) (by kernel_rfl) (by kernel_rfl) (fun _ _ _ h => h) (Or.inl ⟨by kernel_rfl, ?_⟩) hHeld ?_
              rotate_left
              · intro wz hSw; go_simp; try (with_reducible rfl)
              try simp only [Act.put, List.setIfInBounds_toArray, List.set_cons_zero, List.set_cons_succ, List.getElem_toArray, List.getElem_cons_succ, List.getElem_cons_zero]
              refine wpAnyH_done (by kernel_rfl) ?_ _
              have hbb := ((Below.refl u6.heap.size u6).drew).trans (hb1.mono ((Below.refl u6.heap.size u6).drew).size)
              have HW9 := Lib.hid (HW6.out.on hbb)
              have HX9 := Lib.hid (HX6.out.on hbb)
              clear hb1 hbb hHeld
              go_wp2_with fail
              go_roundw
              case rel => exact ⟨i + 1, m, b, L, H5, G5, A1, c1, by omega, rfl, by go_num, HW9, HX9, HE2⟩
              case measure => simp [intOf] <;> omega
            · obtain ⟨T, hT⟩ : ∃ T, tixT key od (b.se + 1) = T := ⟨_, rfl⟩
              have HTZ := Lib.hid (show T.size ≤ 1099511627776 by rw [← hT, tix_size key od (b.se + 1) (by have := HE.out.2.2.1; omega)]; decide)
              obtain ⟨b2, hb2⟩ : ∃ b2 : Bt, (⟨b.se + 1, b.l ++ [⟨T, ⟨ov, on, ot, oe⟩⟩]⟩ : Bt) = b2 := ⟨_, rfl⟩
              have HR := Lib.hid (show issT b ⟨ov, on, ot, oe⟩ (tixT key od) = (T, 0, b2) by rw [← hb2, ← hT]; exact hp)
              have HG2 := Lib.hid (show Gk b2 by have := gk_iss HE.out.2.2.2.1 ⟨ov, on, ot, oe⟩ (tixT key od); rw [HR.out] at this; exact this)
              have HSE := Lib.hid (show b2.se = b.se + 1 by rw [← hb2])
              have hTT : (T.toList != T.toList) = false := by simp
              clear hp hT hb2 hnew hlt
              go_upto_region 13 with (go_at_call 18; (with_reducible refine (z_issue HWv.out.z HE.out.2.2.2.1 ⟨ov, on, ot, oe⟩ od T 0 b2 HR.out HK3.out (Nat.le_trans HOD.out.1 (by decide)) (by have := HE.out.2.2.1; omega) HON.out.1 HON.out.2 HG.out).mono ?_); rintro e u5 ⟨H5, rfl, h1, h2⟩; have HW5 := Lib.hid (HWv.out.left h2 h1); have HX5 := Lib.hid (HXv.out.step (h2.left G)); have HB5 := Lib.hid (HB.out.step (h2.left G)); clear h1 h2)
              clear e0 e1 e2 e3 e4 e5 e6 e7 e8
              have e0 : u5.cell? ⟨kb, 0, none⟩ = some (.int .i64 ow) := HB5.out.b.cell 0
              have e1 : u5.cell? ⟨kb, 1, none⟩ = some (.int .i64 ov) := HB5.out.b.cell 1
              have e2 : u5.cell? ⟨kb, 2, none⟩ = some (.string on) := HB5.out.b.cell 2
              have e3 : u5.cell? ⟨kb, 3, none⟩ = some (.string ot) := HB5.out.b.cell 3
              have e4 : u5.cell? ⟨kb, 4, none⟩ = some (.int .i64 oe) := HB5.out.b.cell 4
              have e5 : u5.cell? ⟨kb, 5, none⟩ = some (.string od) := HB5.out.b.cell 5
              have e6 : u5.cell? ⟨kb, 6, none⟩ = some (.int .i64 oa) := HB5.out.b.cell 6
              have e7 : u5.cell? ⟨kb, 7, none⟩ = some (.string ox) := HB5.out.b.cell 7
              have e8 : u5.cell? ⟨kb, 8, none⟩ = some (.string og) := HB5.out.b.cell 8
              go_upto_region 14 with (go_at_call 19; (with_reducible refine (r_issue HW5.out.d HE.out.2.2.2.1 ⟨ov, on, ot, oe⟩ od T 0 b2 HR.out HK3.out HOD.out.1 (by have := HE.out.2.2.1; omega)).mono ?_); rintro e u6 ⟨G5, rfl, h1, h2⟩; have HW6 := Lib.hid (HW5.out.right h2 h1); have HX6 := Lib.hid (HX5.out.step (h2.right H5)); clear h1 h2)
              clear e0 e1 e2 e3 e4 e5 e6 e7 e8
              have HOA := Lib.hid (HX6.out.o.on ((Below.refl u6.heap.size u6).alloc (Nat.le_refl _) (.cells #[.string T] 9)))
              have HRX := Lib.hid (Rw.bk (f := tsv) (k := 1) (x := T) (Bk.new u6 9 #[.string T]))
              have HSA := Lib.hid (show W.heap.size ≤ (u6.alloc (.cells #[.string T] 9)).heap.size by have := HW6.out.z.l.size; rw [World.size_alloc]; omega)
              have hm200 : m ≤ 200 := HMI.out
              go_upto_region 28 with (at_builtin; refine wp_rows_at roTS rfl (.tmp 82) (.tmp 84) rfl m rfl HE.out.1 HOA.out T u6.heap.size 1 rfl HRX.out (by omega) HSA.out (m + 1) rfl ?_; intro g7 d7 w7 ho hg hb hat; have HY := Lib.hid (Lrk.app HX6.out HW6.out.hi HE.out.1 ho hg hat); clear ho hg hb hat)
              have HW7 := Lib.hid (HW6.out.tu HY.out.2)
              have HX7 := Lib.hid HY.out.1
              clear HY HOA HRX HSA
              have HE2 := Lib.hid (show (L ++ [T]).length = m + 1 ∧ m + 1 ≤ i + 1 ∧ b2.se ≤ ((i + 1 : Nat) : Int) ∧ Gk b2 ∧ ∀ s ∈ L ++ [T], s.size ≤ 1099511627776 from ⟨by rw [List.length_append, HE.out.1]; rfl, by have := HE.out.2.1; omega, by rw [HSE.out]; have := HE.out.2.2.1; omega, HG2.out, fun s hs => by
                rcases List.mem_append.1 hs with hs | hs
                · exact HE.out.2.2.2.2 s hs
                · rw [List.mem_singleton.1 hs]; exact HTZ.out⟩)
              obtain ⟨M, hM⟩ : ∃ M, b2.l.length = M := ⟨_, rfl⟩
              have HM := Lib.hid hM
              obtain ⟨A6, c6, hbk, _, _⟩ := HW7.out.d.ex
              rw [hM] at hbk
              have HBK := Lib.hid hbk
              clear hM hbk
              go_upto_region 28 with fail
              try simp only [List.cons_append, List.nil_append]
              refine wp_region_held_drew (S := fun wz => Below w7.heap.size w7 wz) (by kernel_rfl) ((Below.refl _ _).drew) (fun hHeld => ?_)
              refine take_at (some 131) (i := 0) (v := ?_) rfl rfl (by kernel_rfl) (by kernel_rfl) (by kernel_rfl) (fun _ _ _ h => h) (Or.inl ⟨by kernel_rfl, ?_⟩) hHeld ?_
              rotate_left
              · intro wz hSw; go_simp; try (with_reducible rfl)
              try simp only [Act.put, List.setIfInBounds_toArray, List.set_cons_zero, List.set_cons_succ, List.getElem_toArray, List.getElem_cons_succ, List.getElem_cons_zero]
              refine take_at (some 133) (i := 2) (v := ?_) rfl rfl (by kernel_rfl) (by kernel_rfl) (by kernel_rfl) (fun _ _ _ h => h) (Or.inl ⟨by kernel_rfl, ?_⟩) hHeld ?_
              rotate_left
              · intro wz hSw; go_simp; try (with_reducible rfl)
              try simp only [Act.put, List.setIfInBounds_toArray, List.set_cons_zero, List.set_cons_succ, List.getElem_toArray, List.getElem_cons_succ, List.getElem_cons_zero]
              refine take_at (some 134) (i := 3) (v := ?_) rfl rfl (by kernel_rfl) (by kernel_rfl) (by kernel_rfl) (fun _ _ _ h => h) (Or.inl ⟨by kernel_rfl, ?_⟩) hHeld ?_
              rotate_left
              · intro wz hSw; go_simp; try (with_reducible rfl)
              try simp only [Act.put, List.setIfInBounds_toArray, List.set_cons_zero, List.set_cons_succ, List.getElem_toArray, List.getElem_cons_succ, List.getElem_cons_zero]
              refine take_at (some 135) (i := 4) (v := ?_) rfl rfl (by kernel_rfl) (by kernel_rfl) (by kernel_rfl) (fun _ _ _ h => h) (Or.inl ⟨by kernel_rfl, ?_⟩) hHeld ?_
              rotate_left
              · intro wz hSw; go_simp; try (with_reducible rfl)
              try simp only [Act.put, List.setIfInBounds_toArray, List.set_cons_zero, List.set_cons_succ, List.getElem_toArray, List.getElem_cons_succ, List.getElem_cons_zero]
              refine take_at (some 136) (i := 5) (v := ?_) rfl rfl (by kernel_rfl) (by kernel_rfl) (by kernel_rfl) (fun _ _ _ h => h) (Or.inl ⟨by kernel_rfl, ?_⟩) hHeld ?_
              rotate_left
              · intro wz hSw; have d2 : wz.cell? ⟨db, 2, none⟩ = some (.slice A6 M c6) := (HBK.out.below hSw HBK.out.lt).cell 2; go_simp; try (with_reducible rfl)
              try simp only [Act.put, List.setIfInBounds_toArray, List.set_cons_zero, List.set_cons_succ, List.getElem_toArray, List.getElem_cons_succ, List.getElem_cons_zero]
              refine take_at (some 137) (i := 6) (v := ?_) rfl rfl (by kernel_rfl) (by kernel_rfl) (by kernel_rfl) (fun _ _ _ h => h) (Or.inl ⟨by kernel_rfl, ?_⟩) hHeld ?_
              rotate_left
              · intro wz hSw; go_simp; try (with_reducible rfl)
              try simp only [Act.put, List.setIfInBounds_toArray, List.set_cons_zero, List.set_cons_succ, List.getElem_toArray, List.getElem_cons_succ, List.getElem_cons_zero]
              refine wpAnyH_ready (rs := [1]) (by kernel_rfl) (by simp) (AllReadyH.cons rfl (fun K hK => ?_) AllReadyH.nil)
              rw [if_pos (by kernel_rfl)]
              go_simp
              refine (z_many (HW7.out.z.on ((Below.refl w7.heap.size w7).drew)) M HM.out).mono ?_
              rintro e y1 ⟨rfl, hb1⟩
              try dsimp only
              refine hK.out _ _ (((Below.refl w7.heap.size w7).drew).trans (hb1.mono ((Below.refl w7.heap.size w7).drew).size)) (fun hHeld => ?_)
              try simp only [Act.put, List.setIfInBounds_toArray, List.set_cons_zero, List.set_cons_succ, List.getElem_toArray, List.getElem_cons_succ, List.getElem_cons_zero]
              refine take_at (some 138) (i := 7) (v := ?_) rfl rfl (by kernel_rfl) (by kernel_rfl) (by kernel_rfl) (fun _ _ _ h => h) (Or.inl ⟨by kernel_rfl, ?_⟩) hHeld ?_
              rotate_left
              · intro wz hSw; go_simp; try (with_reducible rfl)
              try simp only [Act.put, List.setIfInBounds_toArray, List.set_cons_zero, List.set_cons_succ, List.getElem_toArray, List.getElem_cons_succ, List.getElem_cons_zero]
              refine wpAnyH_done (by kernel_rfl) ?_ _
              have hbb := ((Below.refl w7.heap.size w7).drew).trans (hb1.mono ((Below.refl w7.heap.size w7).drew).size)
              have HW9 := Lib.hid (HW7.out.on hbb)
              have HX9 := Lib.hid (HX7.out.on hbb)
              clear hb1 hbb hHeld
              go_wp2_with fail
              go_roundw
              case rel => exact ⟨i + 1, m + 1, b2, L ++ [T], H5, G5, some ⟨g7, 0, none⟩, d7, by omega, rfl, by go_num, HW9, HX9, HE2⟩
              case measure => simp [intOf] <;> omega
      · have hi2 : ¬ (i : Int) < (n : Int) := by omega
        go_wp2_with fail
        go_ret
        exact ⟨rfl, HW.out.z.l⟩
end Go.Proofs.YtinbegnojfpeiaaDoor
