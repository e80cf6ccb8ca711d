/- TicketOnce: each ticket is redeemed once at most, for its pass, by its tenant: the walk. (Written by gen_tconce.py.) -/
import Derived.Test.YtinbegnojfpeiaaDoorG21
namespace Go.Proofs.YtinbegnojfpeiaaDoor
set_option linter.unusedVariables false
set_option maxRecDepth 100000
set_option linter.unusedSimpArgs false
open Go.RowKit

theorem ofE_set {v : Int} {E : List On5} {k : Nat} {e : On5} (h : E[k]? = some e) : (ofE v E k).set k (offO v e) = ofE v E (k + 1) := by
  obtain ⟨h1, h2⟩ := List.getElem?_eq_some_iff.1 h
  obtain ⟨e1, e2⟩ := ofE_succ (v := v) h
  have hl : ((E.take k).map (offO v)).length = k := by rw [List.length_map, List.length_take]; omega
  rw [e1, e2, List.set_append_right _ _ (by omega), hl, Nat.sub_self, List.set_cons_zero]
theorem goodL_le (E : List On5) : (goodL E).length ≤ E.length := by
  unfold goodL
  rw [List.length_map]
  exact List.length_filter_le ..
theorem once_no {se : Int} {E : List On5} {s ten : ByteArray} (h : ∀ e ∈ E, hitO s e = false) : redT ⟨se, goodL E⟩ s ten = (zeroPs, 151, ⟨se, goodL E⟩) := by
  unfold redT
  rw [(erase_no ((good_any E s).2 h)).2]
theorem once_held {se : Int} {E : List On5} {s ten : ByteArray} {k : Nat} {e : On5} (h : E[k]? = some e) (h0 : ∀ y ∈ E.take k, hitO s y = false) (he : hitO s e = true) (ht : nmQ e.p.ten ten = false) : redT ⟨se, goodL E⟩ s ten = (zeroPs, 131, ⟨se, goodL E⟩) := by
  unfold redT
  rw [(good_at h h0 he).1]
  dsimp only
  rw [if_neg (by rw [ht]; simp)]
theorem once_ok {se : Int} {E : List On5} {s ten : ByteArray} {k : Nat} {e : On5} (h : E[k]? = some e) (h0 : ∀ y ∈ E.take k, hitO s y = false) (he : hitO s e = true) (ht : nmQ e.p.ten ten = true) : redT ⟨se, goodL E⟩ s ten = (e.p, 0, ⟨se, goodL (E.set k ⟨e.tx, e.p, false⟩)⟩) ∧ (goodL (E.set k ⟨e.tx, e.p, false⟩)).length + 1 = (goodL E).length := by
  obtain ⟨h1, h2⟩ := good_at h h0 he
  constructor
  · unfold redT
    rw [h1]
    dsimp only
    rw [if_pos ht, h2]
  · rw [h2]
    have hx := List.mem_of_find?_eq_some h1
    have hp := List.find?_some h1
    have h3 := List.length_eraseP_of_mem hx hp
    have h4 := List.length_pos_of_mem hx
    omega
set_option maxRecDepth 100000 in
set_option maxHeartbeats 32000000 in
theorem walk_TicketOnce (key : ByteArray) (A : Option Addr) (l : List To) (c : Nat) (W : World) (hk : key.size ≤ 140737488355328) (h : InTk W A l c) (hG : Gl W) :
    Calls Tryd.prog 4 #[.string key, .slice A l.length c] W fun e w' => e = .returned (.bool true) ∧ Below W.heap.size W w' := by
  have HG := Lib.hid hG
  have HI := Lib.hid h
  have HGR := Lib.hid (fun u (hb : Below W.heap.size W u) => tgreat_ok A l c u (h.on hb))
  obtain ⟨gr, hgr⟩ : ∃ gr, grT l = gr := ⟨_, rfl⟩
  have HGB := Lib.hid hgr
  simp only [hgr] at HGR
  obtain ⟨n, hn⟩ : ∃ n, l.length = n := ⟨_, rfl⟩
  have HN := Lib.hid hn
  rw [hn] at HGR ⊢
  have HKZ := Lib.hid hk
  clear hG h hgr hn hk
  go_enter Tryd.func4, Tryd.ntmps4
  go_upto_region 2 with (go_at_call 9; (with_reducible refine (thead_ok _ HG.out).mono ?_); rintro e u1 ⟨rfl, hb⟩; have HB1 := Lib.hid hb; clear hb)
  go_upto_region 3 with (go_at_call 10; (with_reducible refine (z_new HB1.out key HKZ.out).mono ?_); rintro e u2 ⟨H2, tb, rfl, h1, h2, h3⟩; have HZ2 := Lib.hid h1; clear h1 h2 h3)
  cases gr with
  | true =>
    go_wp2_with (go_at_call 12; (with_reducible refine (HGR.out _ HZ2.out.l).mono ?_); rintro e u3 ⟨rfl, hb⟩; have HZ3 := Lib.hid (HZ2.out.on hb); clear hb)
    go_ret
    exact ⟨rfl, HZ3.out.l⟩
  | false =>
  by_cases hgt : key.size > 3000
  · have hg2 : (key.size : Int) > 3000 := by omega
    have hg3 : decide ((3000 : Int) < (key.size : Int)) = true := decide_eq_true (by omega)
    go_wp2_with (go_at_call 12; (with_reducible refine (HGR.out _ HZ2.out.l).mono ?_); rintro e u3 ⟨rfl, hb⟩; have HZ3 := Lib.hid (HZ2.out.on hb); clear hb)
    go_ret
    exact ⟨rfl, HZ3.out.l⟩
  · have hg2 : ¬ (key.size : Int) > 3000 := by omega
    have hg3 : decide ((3000 : Int) < (key.size : Int)) = false := decide_eq_false (by omega)
    have HK3 := Lib.hid (show key.size ≤ 3000 by omega)
    have hfew : n ≤ 200 := by rw [← HN.out]; exact grT_few HGB.out
    have HSMA := Lib.hid (grT_small HGB.out)
    clear hgt
    go_wp2_with (go_at_call 12; (with_reducible refine (HGR.out _ HZ2.out.l).mono ?_); rintro e u3 ⟨rfl, hb⟩; have HZ3 := Lib.hid (HZ2.out.on hb); clear hb)
    go_loopw [7, 8, 9, 10, 11] (fun v7 v8 v9 v10 v11 wr => ∃ (i m nn : Nat) (E : List On5) (H : List Nat) (A1 : Option Addr) (c1 : Nat) (A2 : Option Addr) (c2 : Nat) (A3 : Option Addr) (c3 : Nat), i ≤ n ∧ v7 = .slice A1 m c1 ∧ v8 = .slice A2 m c2 ∧ v9 = .slice A3 m c3 ∧ v10 = .int .i64 (nn : Int) ∧ v11 = .int .i64 (i : Int) ∧ Hid (Tz W wr H tb key ⟨(m : Int), goodL E⟩) ∧ Hid (So5 W wr H tb key (m : Int) E A1 c1 A2 c2 A3 c3) ∧ Hid (E.length = m ∧ m ≤ i ∧ (goodL E).length = nn ∧ Gk ⟨(m : Int), goodL E⟩ ∧ ∀ e ∈ E, e.tx.size ≤ 1099511627776)) (fun v7 v8 v9 v10 v11 _ => n - (intOf v11).toNat)
    case atStart => exact ⟨0, 0, 0, [], H2, none, 0, none, 0, none, 0, by omega, rfl, rfl, rfl, rfl, rfl, HZ3, Lib.hid ⟨Lrk.nil _ _ _, Lrk.nil _ _ _, Lrk.nil _ _ _⟩, Lib.hid ⟨rfl, Nat.le_refl _, rfl, gk_nil, fun e he => (by cases he)⟩⟩
    case round =>
      obtain ⟨i, m, nn, E, H, A1, c1, A2, c2, A3, c3, hi, rfl, rfl, rfl, rfl, rfl, HZ, HS, HE⟩ := hrel
      have hnn : nn ≤ 64 := by have := HE.out.2.2.1; have := HE.out.2.2.2.1.few; dsimp only at this; omega
      have hmi : m ≤ i := HE.out.2.1
      by_cases hi1 : i < n
      · have hi2 : (i : Int) < (n : Int) := by omega
        obtain ⟨bx, o, op, rfl, hx, hsm, hc⟩ := HI.out.at9 i (by rw [HN.out]; exact hi1)
        have HOS := Lib.hid (HSMA.out op (List.mem_of_getElem? hx))
        obtain ⟨x0, x1, x2, x3, x4, x5, x6, x7, x8⟩ := hc wr HZ.out.l
        have HOZ := Lib.hid hsm
        obtain ⟨ow, ⟨ov, on, ot, oe⟩, od, oa, ox, og⟩ := op
        dsimp only at x0 x1 x2 x3 x4 x5 x6 x7 x8
        have HOD := Lib.hid (show od.size ≤ 3000 ∧ ox.size ≤ 3000 from by have h1 := HOS.out; unfold szT at h1; dsimp only at h1; omega)
        have HON := Lib.hid (show on.size ≤ 140737488355328 ∧ ot.size ≤ 140737488355328 from ⟨HOZ.out.1, HOZ.out.2.1⟩)
        clear hx hc hsm HOS HOZ
        go_upto_region 13 with fail
        obtain ⟨kb, hkb⟩ : ∃ kb, wr.heap.size = kb := ⟨_, rfl⟩
        obtain ⟨v, hv⟩ : ∃ v, wr.alloc (.cells #[.int .i64 ow, .int .i64 ov, .string on, .string ot, .int .i64 oe, .string od, .int .i64 oa, .string ox, .string og] 33) = v := ⟨_, rfl⟩
        have hbv : Below wr.heap.size wr v := by rw [← hv]; exact (Below.refl _ _).alloc (Nat.le_refl _) _
        have HB := Lib.hid (show Bz v H kb 33 #[.int .i64 ow, .int .i64 ov, .string on, .string ot, .int .i64 oe, .string od, .int .i64 oa, .string ox, .string og] by rw [← hv, ← hkb]; exact Bz.new HZ.out.hi _ _)
        have HZv := Lib.hid (HZ.out.on hbv)
        have HSv := Lib.hid (HS.out.on hbv)
        try rw [hv]
        try rw [hkb]
        clear hv hkb hbv x0 x1 x2 x3 x4 x5 x6 x7 x8
        have e0 : v.cell? ⟨kb, 0, none⟩ = some (.int .i64 ow) := HB.out.b.cell 0
        have e1 : v.cell? ⟨kb, 1, none⟩ = some (.int .i64 ov) := HB.out.b.cell 1
        have e2 : v.cell? ⟨kb, 2, none⟩ = some (.string on) := HB.out.b.cell 2
        have e3 : v.cell? ⟨kb, 3, none⟩ = some (.string ot) := HB.out.b.cell 3
        have e4 : v.cell? ⟨kb, 4, none⟩ = some (.int .i64 oe) := HB.out.b.cell 4
        have e5 : v.cell? ⟨kb, 5, none⟩ = some (.string od) := HB.out.b.cell 5
        have e6 : v.cell? ⟨kb, 6, none⟩ = some (.int .i64 oa) := HB.out.b.cell 6
        have e7 : v.cell? ⟨kb, 7, none⟩ = some (.string ox) := HB.out.b.cell 7
        have e8 : v.cell? ⟨kb, 8, none⟩ = some (.string og) := HB.out.b.cell 8
        by_cases h2 : ow = 2
        · subst h2
          obtain ⟨S, hS⟩ : ∃ S, shS (⟨2, ⟨ov, on, ot, oe⟩, od, oa, ox, og⟩ : To) (E.map (·.tx)) = S := ⟨_, rfl⟩
          have HSZ := Lib.hid (show S.size ≤ 1099511627776 from by
            rw [← hS]
            unfold shS
            split
            · rename_i hh
              dsimp only at hh
              rw [List.getD_eq_getElem?_getD]
              cases hq : (E.map (·.tx))[oa.toNat]? with
              | none => exact Nat.zero_le _
              | some y =>
                obtain ⟨e, he, rfl⟩ := List.mem_map.1 (List.mem_of_getElem? hq)
                exact HE.out.2.2.2.2 e he
            · exact Nat.le_trans HOD.out.2 (by decide))
          have HSH := Lib.hid (tshown_ok (⟨2, ⟨ov, on, ot, oe⟩, od, oa, ox, og⟩ : To) A1 (E.map (·.tx)) m c1 v (Ow.rw_ (fun _ => rfl) HSv.out.r1.o) (by rw [List.length_map]; exact HE.out.1) S hS)
          clear hS
          go_upto_region 15 with (go_at_call 14; (with_reducible refine HSH.out.mono ?_); rintro e u3 ⟨rfl, hb⟩; have HZ3 := Lib.hid (HZv.out.on hb); have HS3 := Lib.hid (HSv.out.on hb); have HB3 := Lib.hid (HB.out.on hb); clear hb)
          clear HSH HZv HSv
          clear e0 e1 e2 e3 e4 e5 e6 e7 e8
          have e0 : u3.cell? ⟨kb, 0, none⟩ = some (.int .i64 2) := HB3.out.b.cell 0
          have e1 : u3.cell? ⟨kb, 1, none⟩ = some (.int .i64 ov) := HB3.out.b.cell 1
          have e2 : u3.cell? ⟨kb, 2, none⟩ = some (.string on) := HB3.out.b.cell 2
          have e3 : u3.cell? ⟨kb, 3, none⟩ = some (.string ot) := HB3.out.b.cell 3
          have e4 : u3.cell? ⟨kb, 4, none⟩ = some (.int .i64 oe) := HB3.out.b.cell 4
          have e5 : u3.cell? ⟨kb, 5, none⟩ = some (.string od) := HB3.out.b.cell 5
          have e6 : u3.cell? ⟨kb, 6, none⟩ = some (.int .i64 oa) := HB3.out.b.cell 6
          have e7 : u3.cell? ⟨kb, 7, none⟩ = some (.string ox) := HB3.out.b.cell 7
          have e8 : u3.cell? ⟨kb, 8, none⟩ = some (.string og) := HB3.out.b.cell 8
          have hwm : IntKind.i64.wrap ((m : Int) - 1) = (m : Int) - 1 := by rw [IntKind.wrap_i64]; omega
          rcases hit_cases S E with h0 | ⟨k, e, hke, h0, he⟩
          · have HFN0 := Lib.hid (fn_no (j := 0) h0)
            go_upto_region 16 with (go_at_call 13; (with_reducible refine (z_redeem HZ3.out HE.out.2.2.2.1 S og zeroPs 151 _ (once_no h0) HSZ.out).mono ?_); rintro e u4 ⟨H4, rfl, h1, h2⟩; have HZ4 := Lib.hid h1; have HS4 := Lib.hid (HS3.out.step h2); have HB4 := Lib.hid (HB3.out.step h2); clear h1 h2)
            try simp only [zeroPs]
            clear e0 e1 e2 e3 e4 e5 e6 e7 e8
            obtain ⟨gx, hgx⟩ : ∃ gx, u4.heap.size = gx := ⟨_, rfl⟩
            obtain ⟨u5, hu5⟩ : ∃ u5, u4.alloc (.cells #[.int .i64 0, .string ⟨#[]⟩, .string ⟨#[]⟩, .int .i64 0] 31) = u5 := ⟨_, rfl⟩
            have hb5 : Below u4.heap.size u4 u5 := by rw [← hu5]; exact (Below.refl _ _).alloc (Nat.le_refl _) _
            have HX5 := Lib.hid (show Bk u5 gx 31 #[.int .i64 0, .string ⟨#[]⟩, .string ⟨#[]⟩, .int .i64 0] by rw [← hu5, ← hgx]; exact Bk.new _ _ _)
            have HZ5 := Lib.hid (HZ4.out.on hb5)
            have HS5 := Lib.hid (HS4.out.on hb5)
            have HB5 := Lib.hid (HB4.out.on hb5)
            try rw [hu5]
            try rw [hgx]
            clear hu5 hgx hb5
            clear h0
            go_wp2_with fail
            go_loopw [16, 17] (fun v16 v17 wr2 => ∃ (j : Nat), j ≤ m ∧ v16 = .int .i64 (fnL S (E.drop j) j) ∧ v17 = .int .i64 ((j : Int) - 1) ∧ wr2 = u5) (fun v16 v17 _ => (intOf v17 + 1).toNat)
            case atStart => exact ⟨m, Nat.le_refl _, by rw [List.drop_of_length_le (by rw [HE.out.1]; exact Nat.le_refl _)]; rfl, rfl, by first | rfl | trivial⟩
            case round =>
              obtain ⟨j, hj, rfl, rfl, hwr2⟩ := hrel
              subst hwr2
              cases j with
              | succ k2 =>
                rw [show (((k2 + 1 : Nat)) : Int) - 1 = (k2 : Int) by omega]
                have hk2 : (k2 : Int) < (m : Int) := by omega
                have hk3 : (k2 : Int) ≥ 0 := by omega
                have hwk : IntKind.i64.wrap ((k2 : Int) - 1) = (k2 : Int) - 1 := by rw [IntKind.wrap_i64]; omega
                obtain ⟨e2, b1, o1, b2, o2, b3, he2, rfl, rfl, rfl, _, hcc⟩ := HS5.out.at_ k2 (by rw [HE.out.1]; omega)
                have HST := Lib.hid (fn_step (s := S) he2)
                obtain ⟨t1, _, _, _, _, t6⟩ := hcc wr (Below.refl _ _)
                obtain ⟨etx, ep, eok⟩ := e2
                dsimp only at t1 t6
                obtain ⟨F, hF⟩ : ∃ F, fnL S (E.drop (k2 + 1)) (k2 + 1) = F := ⟨_, rfl⟩
                rw [hF] at HST ⊢
                clear hcc he2 hF
                cases eok with
                | false =>
                  have HFN := Lib.hid (show fnL S (E.drop k2) k2 = F by rw [HST.out, if_neg (by unfold hitO; simp)])
                  go_wp2_with fail
                  go_roundw
                  case rel => exact ⟨k2, by omega, by rw [HFN.out], rfl, by first | rfl | trivial⟩
                  case measure => simp [intOf] <;> omega
                | true =>
                  obtain ⟨q, hq⟩ : ∃ q, (etx.toList == S.toList) = q := ⟨_, rfl⟩
                  have HHQ := Lib.hid (show hitO S ⟨etx, ep, true⟩ = q by unfold hitO nmQ; rw [hq]; rfl)
                  cases q with
                  | false =>
                    have HFN := Lib.hid (show fnL S (E.drop k2) k2 = F by rw [HST.out, if_neg (by rw [HHQ.out]; simp)])
                    go_wp2_with fail
                    go_roundw
                    case rel => exact ⟨k2, by omega, by rw [HFN.out], rfl, by first | rfl | trivial⟩
                    case measure => simp [intOf] <;> omega
                  | true =>
                    have HFN := Lib.hid (show fnL S (E.drop k2) k2 = (k2 : Int) by rw [HST.out, if_pos HHQ.out])
                    go_wp2_with fail
                    go_roundw
                    case rel => exact ⟨k2, by omega, by rw [HFN.out], rfl, by first | rfl | trivial⟩
                    case measure => simp [intOf] <;> omega
              | zero =>
                rw [show ((0 : Nat) : Int) - 1 = -1 from rfl, List.drop_zero, HFN0.out]
                clear hj
                go_upto_region 22 with fail
                try simp only [List.cons_append, List.nil_append]
                refine wp_region_held_drew (S := fun wz => Below wr.heap.size wr wz) (by kernel_rfl) ((Below.refl _ _).drew) (fun hHeld => ?_)
                refine take_at (some 85) (i := 0) (v := ?_) rfl rfl (by kernel_rfl) (by kernel_rfl) (by kernel_rfl) (fun _ _ _ h => h) (Or.inl ⟨by kernel_rfl, ?_⟩) hHeld ?_
                rotate_left
                · intro wz hSw; go_simp; try (with_reducible rfl)
                try simp only [Act.put, List.setIfInBounds_toArray, List.set_cons_zero, List.set_cons_succ, List.getElem_toArray, List.getElem_cons_succ, List.getElem_cons_zero]
                refine take_at (some 86) (i := 1) (v := ?_) rfl rfl (by kernel_rfl) (by kernel_rfl) (by kernel_rfl) (fun _ _ _ h => h) (Or.inl ⟨by kernel_rfl, ?_⟩) hHeld ?_
                rotate_left
                · intro wz hSw; go_simp; try (with_reducible rfl)
                try simp only [Act.put, List.setIfInBounds_toArray, List.set_cons_zero, List.set_cons_succ, List.getElem_toArray, List.getElem_cons_succ, List.getElem_cons_zero]
                refine take_at (some 87) (i := 2) (v := ?_) rfl rfl (by kernel_rfl) (by kernel_rfl) (by kernel_rfl) (fun _ _ _ h => h) (Or.inl ⟨by kernel_rfl, ?_⟩) hHeld ?_
                rotate_left
                · intro wz hSw; go_simp; try (with_reducible rfl)
                try simp only [Act.put, List.setIfInBounds_toArray, List.set_cons_zero, List.set_cons_succ, List.getElem_toArray, List.getElem_cons_succ, List.getElem_cons_zero]
                refine take_at (some 88) (i := 3) (v := ?_) rfl rfl (by kernel_rfl) (by kernel_rfl) (by kernel_rfl) (fun _ _ _ h => h) (Or.inl ⟨by kernel_rfl, ?_⟩) hHeld ?_
                rotate_left
                · intro wz hSw; go_simp; try (with_reducible rfl)
                try simp only [Act.put, List.setIfInBounds_toArray, List.set_cons_zero, List.set_cons_succ, List.getElem_toArray, List.getElem_cons_succ, List.getElem_cons_zero]
                refine take_at (some 89) (i := 4) (v := ?_) rfl rfl (by kernel_rfl) (by kernel_rfl) (by kernel_rfl) (fun _ _ _ h => h) (Or.inl ⟨by kernel_rfl, ?_⟩) hHeld ?_
                rotate_left
                · intro wz hSw; go_simp; try (with_reducible rfl)
                try simp only [Act.put, List.setIfInBounds_toArray, List.set_cons_zero, List.set_cons_succ, List.getElem_toArray, List.getElem_cons_succ, List.getElem_cons_zero]
                refine take_at (some 90) (i := 5) (v := ?_) rfl rfl (by kernel_rfl) (by kernel_rfl) (by kernel_rfl) (fun _ _ _ h => h) (Or.inl ⟨by kernel_rfl, ?_⟩) hHeld ?_
                rotate_left
                · intro wz hSw; go_simp; try (with_reducible rfl)
                try simp only [Act.put, List.setIfInBounds_toArray, List.set_cons_zero, List.set_cons_succ, List.getElem_toArray, List.getElem_cons_succ, List.getElem_cons_zero]
                refine take_at (some 91) (i := 6) (v := ?_) rfl rfl (by kernel_rfl) (by kernel_rfl) (by kernel_rfl) (fun _ _ _ h => h) (Or.inl ⟨by kernel_rfl, ?_⟩) hHeld ?_
                rotate_left
                · intro wz hSw; go_simp; try (with_reducible rfl)
                try simp only [Act.put, List.setIfInBounds_toArray, List.set_cons_zero, List.set_cons_succ, List.getElem_toArray, List.getElem_cons_succ, List.getElem_cons_zero]
                refine take_at (some 92) (i := 7) (v := ?_) rfl rfl (by kernel_rfl) (by kernel_rfl) (by kernel_rfl) (fun _ _ _ h => h) (Or.inl ⟨by kernel_rfl, ?_⟩) hHeld ?_
                rotate_left
                · intro wz hSw; go_simp; try (with_reducible rfl)
                try simp only [Act.put, List.setIfInBounds_toArray, List.set_cons_zero, List.set_cons_succ, List.getElem_toArray, List.getElem_cons_succ, List.getElem_cons_zero]
                refine take_at (some 93) (i := 8) (v := ?_) rfl rfl (by kernel_rfl) (by kernel_rfl) (by kernel_rfl) (fun _ _ _ h => h) (Or.inl ⟨by kernel_rfl, ?_⟩) hHeld ?_
                rotate_left
                · intro wz hSw; go_simp; try (with_reducible rfl)
                try simp only [Act.put, List.setIfInBounds_toArray, List.set_cons_zero, List.set_cons_succ, List.getElem_toArray, List.getElem_cons_succ, List.getElem_cons_zero]
                refine take_at (some 94) (i := 9) (v := undef) rfl rfl (by kernel_rfl) (by kernel_rfl) (by kernel_rfl) (fun _ _ _ h => h) (Or.inr ⟨by kernel_rfl, rfl⟩) hHeld ?_
                try simp only [Act.put, List.setIfInBounds_toArray, List.set_cons_zero, List.set_cons_succ, List.getElem_toArray, List.getElem_cons_succ, List.getElem_cons_zero]
                refine take_at (some 95) (i := 10) (v := undef) rfl rfl (by kernel_rfl) (by kernel_rfl) (by kernel_rfl) (fun _ _ _ h => h) (Or.inr ⟨by kernel_rfl, rfl⟩) hHeld ?_
                try simp only [Act.put, List.setIfInBounds_toArray, List.set_cons_zero, List.set_cons_succ, List.getElem_toArray, List.getElem_cons_succ, List.getElem_cons_zero]
                refine take_at (some 96) (i := 11) (v := undef) rfl rfl (by kernel_rfl) (by kernel_rfl) (by kernel_rfl) (fun _ _ _ h => h) (Or.inr ⟨by kernel_rfl, rfl⟩) hHeld ?_
                try simp only [Act.put, List.setIfInBounds_toArray, List.set_cons_zero, List.set_cons_succ, List.getElem_toArray, List.getElem_cons_succ, List.getElem_cons_zero]
                refine take_at (some 97) (i := 12) (v := undef) rfl rfl (by kernel_rfl) (by kernel_rfl) (by kernel_rfl) (fun _ _ _ h => h) (Or.inr ⟨by kernel_rfl, rfl⟩) hHeld ?_
                try simp only [Act.put, List.setIfInBounds_toArray, List.set_cons_zero, List.set_cons_succ, List.getElem_toArray, List.getElem_cons_succ, List.getElem_cons_zero]
                refine take_at (some 98) (i := 13) (v := undef) rfl rfl (by kernel_rfl) (by kernel_rfl) (by kernel_rfl) (fun _ _ _ h => h) (Or.inr ⟨by kernel_rfl, rfl⟩) hHeld ?_
                try simp only [Act.put, List.setIfInBounds_toArray, List.set_cons_zero, List.set_cons_succ, List.getElem_toArray, List.getElem_cons_succ, List.getElem_cons_zero]
                refine take_at (some 99) (i := 14) (v := undef) rfl rfl (by kernel_rfl) (by kernel_rfl) (by kernel_rfl) (fun _ _ _ h => h) (Or.inr ⟨by kernel_rfl, rfl⟩) hHeld ?_
                try simp only [Act.put, List.setIfInBounds_toArray, List.set_cons_zero, List.set_cons_succ, List.getElem_toArray, List.getElem_cons_succ, List.getElem_cons_zero]
                refine take_at (some 100) (i := 15) (v := undef) rfl rfl (by kernel_rfl) (by kernel_rfl) (by kernel_rfl) (fun _ _ _ h => h) (Or.inr ⟨by kernel_rfl, rfl⟩) hHeld ?_
                try simp only [Act.put, List.setIfInBounds_toArray, List.set_cons_zero, List.set_cons_succ, List.getElem_toArray, List.getElem_cons_succ, List.getElem_cons_zero]
                refine take_at (some 101) (i := 16) (v := undef) rfl rfl (by kernel_rfl) (by kernel_rfl) (by kernel_rfl) (fun _ _ _ h => h) (Or.inr ⟨by kernel_rfl, rfl⟩) hHeld ?_
                try simp only [Act.put, List.setIfInBounds_toArray, List.set_cons_zero, List.set_cons_succ, List.getElem_toArray, List.getElem_cons_succ, List.getElem_cons_zero]
                refine take_at (some 102) (i := 17) (v := undef) rfl rfl (by kernel_rfl) (by kernel_rfl) (by kernel_rfl) (fun _ _ _ h => h) (Or.inr ⟨by kernel_rfl, rfl⟩) hHeld ?_
                try simp only [Act.put, List.setIfInBounds_toArray, List.set_cons_zero, List.set_cons_succ, List.getElem_toArray, List.getElem_cons_succ, List.getElem_cons_zero]
                refine take_at (some 103) (i := 18) (v := undef) rfl rfl (by kernel_rfl) (by kernel_rfl) (by kernel_rfl) (fun _ _ _ h => h) (Or.inr ⟨by kernel_rfl, rfl⟩) hHeld ?_
                try simp only [Act.put, List.setIfInBounds_toArray, List.set_cons_zero, List.set_cons_succ, List.getElem_toArray, List.getElem_cons_succ, List.getElem_cons_zero]
                refine take_at (some 104) (i := 19) (v := undef) rfl rfl (by kernel_rfl) (by kernel_rfl) (by kernel_rfl) (fun _ _ _ h => h) (Or.inr ⟨by kernel_rfl, rfl⟩) hHeld ?_
                try simp only [Act.put, List.setIfInBounds_toArray, List.set_cons_zero, List.set_cons_succ, List.getElem_toArray, List.getElem_cons_succ, List.getElem_cons_zero]
                refine take_at (some 105) (i := 20) (v := undef) rfl rfl (by kernel_rfl) (by kernel_rfl) (by kernel_rfl) (fun _ _ _ h => h) (Or.inr ⟨by kernel_rfl, rfl⟩) hHeld ?_
                try simp only [Act.put, List.setIfInBounds_toArray, List.set_cons_zero, List.set_cons_succ, List.getElem_toArray, List.getElem_cons_succ, List.getElem_cons_zero]
                refine take_at (some 106) (i := 21) (v := undef) rfl rfl (by kernel_rfl) (by kernel_rfl) (by kernel_rfl) (fun _ _ _ h => h) (Or.inr ⟨by kernel_rfl, rfl⟩) hHeld ?_
                try simp only [Act.put, List.setIfInBounds_toArray, List.set_cons_zero, List.set_cons_succ, List.getElem_toArray, List.getElem_cons_succ, List.getElem_cons_zero]
                refine take_at (some 107) (i := 22) (v := ?_) rfl rfl (by kernel_rfl) (by kernel_rfl) (by kernel_rfl) (fun _ _ _ h => h) (Or.inl ⟨by kernel_rfl, ?_⟩) hHeld ?_
                rotate_left
                · intro wz hSw; go_simp; try (with_reducible rfl)
                try simp only [Act.put, List.setIfInBounds_toArray, List.set_cons_zero, List.set_cons_succ, List.getElem_toArray, List.getElem_cons_succ, List.getElem_cons_zero]
                refine take_at (some 108) (i := 23) (v := ?_) rfl rfl (by kernel_rfl) (by kernel_rfl) (by kernel_rfl) (fun _ _ _ h => h) (Or.inl ⟨by kernel_rfl, ?_⟩) hHeld ?_
                rotate_left
                · intro wz hSw; go_simp; try (with_reducible rfl)
                try simp only [Act.put, List.setIfInBounds_toArray, List.set_cons_zero, List.set_cons_succ, List.getElem_toArray, List.getElem_cons_succ, List.getElem_cons_zero]
                refine take_at (some 109) (i := 24) (v := ?_) rfl rfl (by kernel_rfl) (by kernel_rfl) (by kernel_rfl) (fun _ _ _ h => h) (Or.inl ⟨by kernel_rfl, ?_⟩) hHeld ?_
                rotate_left
                · intro wz hSw; go_simp; try (with_reducible rfl)
                try simp only [Act.put, List.setIfInBounds_toArray, List.set_cons_zero, List.set_cons_succ, List.getElem_toArray, List.getElem_cons_succ, List.getElem_cons_zero]
                refine take_at (some 110) (i := 25) (v := ?_) rfl rfl (by kernel_rfl) (by kernel_rfl) (by kernel_rfl) (fun _ _ _ h => h) (Or.inl ⟨by kernel_rfl, ?_⟩) hHeld ?_
                rotate_left
                · intro wz hSw; go_simp; try (with_reducible rfl)
                try simp only [Act.put, List.setIfInBounds_toArray, List.set_cons_zero, List.set_cons_succ, List.getElem_toArray, List.getElem_cons_succ, List.getElem_cons_zero]
                refine take_at (some 111) (i := 26) (v := ?_) rfl rfl (by kernel_rfl) (by kernel_rfl) (by kernel_rfl) (fun _ _ _ h => h) (Or.inl ⟨by kernel_rfl, ?_⟩) hHeld ?_
                rotate_left
                · intro wz hSw; go_simp; try (with_reducible rfl)
                try simp only [Act.put, List.setIfInBounds_toArray, List.set_cons_zero, List.set_cons_succ, List.getElem_toArray, List.getElem_cons_succ, List.getElem_cons_zero]
                refine take_at (some 112) (i := 27) (v := ?_) rfl rfl (by kernel_rfl) (by kernel_rfl) (by kernel_rfl) (fun _ _ _ h => h) (Or.inl ⟨by kernel_rfl, ?_⟩) hHeld ?_
                rotate_left
                · intro wz hSw; go_simp; try (with_reducible rfl)
                try simp only [Act.put, List.setIfInBounds_toArray, List.set_cons_zero, List.set_cons_succ, List.getElem_toArray, List.getElem_cons_succ, List.getElem_cons_zero]
                refine take_at (some 113) (i := 28) (v := undef) rfl rfl (by kernel_rfl) (by kernel_rfl) (by kernel_rfl) (fun _ _ _ h => h) (Or.inr ⟨by kernel_rfl, rfl⟩) hHeld ?_
                try simp only [Act.put, List.setIfInBounds_toArray, List.set_cons_zero, List.set_cons_succ, List.getElem_toArray, List.getElem_cons_succ, List.getElem_cons_zero]
                refine take_at (some 114) (i := 29) (v := undef) rfl rfl (by kernel_rfl) (by kernel_rfl) (by kernel_rfl) (fun _ _ _ h => h) (Or.inr ⟨by kernel_rfl, rfl⟩) hHeld ?_
                try simp only [Act.put, List.setIfInBounds_toArray, List.set_cons_zero, List.set_cons_succ, List.getElem_toArray, List.getElem_cons_succ, List.getElem_cons_zero]
                refine take_at (some 115) (i := 30) (v := undef) rfl rfl (by kernel_rfl) (by kernel_rfl) (by kernel_rfl) (fun _ _ _ h => h) (Or.inr ⟨by kernel_rfl, rfl⟩) hHeld ?_
                try simp only [Act.put, List.setIfInBounds_toArray, List.set_cons_zero, List.set_cons_succ, List.getElem_toArray, List.getElem_cons_succ, List.getElem_cons_zero]
                refine take_at (some 116) (i := 31) (v := undef) rfl rfl (by kernel_rfl) (by kernel_rfl) (by kernel_rfl) (fun _ _ _ h => h) (Or.inr ⟨by kernel_rfl, rfl⟩) hHeld ?_
                try simp only [Act.put, List.setIfInBounds_toArray, List.set_cons_zero, List.set_cons_succ, List.getElem_toArray, List.getElem_cons_succ, List.getElem_cons_zero]
                refine take_at (some 117) (i := 32) (v := undef) rfl rfl (by kernel_rfl) (by kernel_rfl) (by kernel_rfl) (fun _ _ _ h => h) (Or.inr ⟨by kernel_rfl, rfl⟩) hHeld ?_
                try simp only [Act.put, List.setIfInBounds_toArray, List.set_cons_zero, List.set_cons_succ, List.getElem_toArray, List.getElem_cons_succ, List.getElem_cons_zero]
                refine take_at (some 118) (i := 33) (v := undef) rfl rfl (by kernel_rfl) (by kernel_rfl) (by kernel_rfl) (fun _ _ _ h => h) (Or.inr ⟨by kernel_rfl, rfl⟩) hHeld ?_
                try simp only [Act.put, List.setIfInBounds_toArray, List.set_cons_zero, List.set_cons_succ, List.getElem_toArray, List.getElem_cons_succ, List.getElem_cons_zero]
                refine take_at (some 119) (i := 34) (v := undef) rfl rfl (by kernel_rfl) (by kernel_rfl) (by kernel_rfl) (fun _ _ _ h => h) (Or.inr ⟨by kernel_rfl, rfl⟩) hHeld ?_
                try simp only [Act.put, List.setIfInBounds_toArray, List.set_cons_zero, List.set_cons_succ, List.getElem_toArray, List.getElem_cons_succ, List.getElem_cons_zero]
                refine take_at (some 120) (i := 35) (v := undef) rfl rfl (by kernel_rfl) (by kernel_rfl) (by kernel_rfl) (fun _ _ _ h => h) (Or.inr ⟨by kernel_rfl, rfl⟩) hHeld ?_
                try simp only [Act.put, List.setIfInBounds_toArray, List.set_cons_zero, List.set_cons_succ, List.getElem_toArray, List.getElem_cons_succ, List.getElem_cons_zero]
                refine take_at (some 121) (i := 36) (v := ?_) rfl rfl (by kernel_rfl) (by kernel_rfl) (by kernel_rfl) (fun _ _ _ h => h) (Or.inl ⟨by kernel_rfl, ?_⟩) hHeld ?_
                rotate_left
                · intro wz hSw; go_simp; try (with_reducible rfl)
                try simp only [Act.put, List.setIfInBounds_toArray, List.set_cons_zero, List.set_cons_succ, List.getElem_toArray, List.getElem_cons_succ, List.getElem_cons_zero]
                refine take_at (some 122) (i := 37) (v := ?_) rfl rfl (by kernel_rfl) (by kernel_rfl) (by kernel_rfl) (fun _ _ _ h => h) (Or.inl ⟨by kernel_rfl, ?_⟩) hHeld ?_
                rotate_left
                · intro wz hSw; go_simp; try (with_reducible rfl)
                try simp only [Act.put, List.setIfInBounds_toArray, List.set_cons_zero, List.set_cons_succ, List.getElem_toArray, List.getElem_cons_succ, List.getElem_cons_zero]
                refine wpAnyH_done (by kernel_rfl) ?_ _
                clear hHeld
                have hbd := (Below.refl wr.heap.size wr).drew
                have HZ6 := Lib.hid (HZ5.out.on hbd)
                have HS6 := Lib.hid (HS5.out.on hbd)
                clear hbd
                have HE2 := Lib.hid (show E.length = m ∧ m ≤ i + 1 ∧ (goodL E).length = nn ∧ Gk ⟨(m : Int), goodL E⟩ ∧ ∀ e ∈ E, e.tx.size ≤ 1099511627776 from ⟨HE.out.1, by omega, HE.out.2.2⟩)
                go_wp2_with (go_at_call 20; (with_reducible refine (z_many HZ6.out nn (HE2.out.2.2.1)).mono ?_); rintro e w9 ⟨rfl, hb⟩; have HZ9 := Lib.hid (HZ6.out.on hb); have HS9 := Lib.hid (HS6.out.on hb); clear hb)
                go_roundw
                case rel => exact ⟨i + 1, m, nn, E, H4, A1, c1, A2, c2, A3, c3, by omega, rfl, rfl, rfl, by first | rfl | go_num, by go_num, HZ9, HS9, HE2⟩
                case measure => simp [intOf] <;> omega
          · have HFN0 := Lib.hid (show fnL S E 0 = (k : Int) by rw [fn_at (j := 0) hke h0 he, Nat.zero_add])
            have hkm : k < m := by rw [← HE.out.1]; exact (List.getElem?_eq_some_iff.1 hke).1
            have hkm2 : (k : Int) < (m : Int) := by omega
            have hk0 : ¬ (k : Int) < 0 := by omega
            obtain ⟨q, hq⟩ : ∃ q, nmQ e.p.ten og = q := ⟨_, rfl⟩
            cases q with
            | false =>
              have HRD := Lib.hid (once_held (se := (m : Int)) hke h0 he hq)
              have HKE := Lib.hid hke
              go_upto_region 16 with (go_at_call 13; (with_reducible refine (z_redeem HZ3.out HE.out.2.2.2.1 S og zeroPs 131 _ (HRD.out) HSZ.out).mono ?_); rintro e u4 ⟨H4, rfl, h1, h2⟩; have HZ4 := Lib.hid h1; have HS4 := Lib.hid (HS3.out.step h2); have HB4 := Lib.hid (HB3.out.step h2); clear h1 h2)
              try simp only [zeroPs]
              clear e0 e1 e2 e3 e4 e5 e6 e7 e8
              obtain ⟨gx, hgx⟩ : ∃ gx, u4.heap.size = gx := ⟨_, rfl⟩
              obtain ⟨u5, hu5⟩ : ∃ u5, u4.alloc (.cells #[.int .i64 0, .string ⟨#[]⟩, .string ⟨#[]⟩, .int .i64 0] 31) = u5 := ⟨_, rfl⟩
              have hb5 : Below u4.heap.size u4 u5 := by rw [← hu5]; exact (Below.refl _ _).alloc (Nat.le_refl _) _
              have HX5 := Lib.hid (show Bk u5 gx 31 #[.int .i64 0, .string ⟨#[]⟩, .string ⟨#[]⟩, .int .i64 0] by rw [← hu5, ← hgx]; exact Bk.new _ _ _)
              have HZ5 := Lib.hid (HZ4.out.on hb5)
              have HS5 := Lib.hid (HS4.out.on hb5)
              have HB5 := Lib.hid (HB4.out.on hb5)
              try rw [hu5]
              try rw [hgx]
              clear hu5 hgx hb5
              clear h0 he hke
              go_wp2_with fail
              go_loopw [16, 17] (fun v16 v17 wr2 => ∃ (j : Nat), j ≤ m ∧ v16 = .int .i64 (fnL S (E.drop j) j) ∧ v17 = .int .i64 ((j : Int) - 1) ∧ wr2 = u5) (fun v16 v17 _ => (intOf v17 + 1).toNat)
              case atStart => exact ⟨m, Nat.le_refl _, by rw [List.drop_of_length_le (by rw [HE.out.1]; exact Nat.le_refl _)]; rfl, rfl, by first | rfl | trivial⟩
              case round =>
                obtain ⟨j, hj, rfl, rfl, hwr2⟩ := hrel
                subst hwr2
                cases j with
                | succ k2 =>
                  rw [show (((k2 + 1 : Nat)) : Int) - 1 = (k2 : Int) by omega]
                  have hk2 : (k2 : Int) < (m : Int) := by omega
                  have hk3 : (k2 : Int) ≥ 0 := by omega
                  have hwk : IntKind.i64.wrap ((k2 : Int) - 1) = (k2 : Int) - 1 := by rw [IntKind.wrap_i64]; omega
                  obtain ⟨e2, b1, o1, b2, o2, b3, he2, rfl, rfl, rfl, _, hcc⟩ := HS5.out.at_ k2 (by rw [HE.out.1]; omega)
                  have HST := Lib.hid (fn_step (s := S) he2)
                  obtain ⟨t1, _, _, _, _, t6⟩ := hcc wr (Below.refl _ _)
                  obtain ⟨etx, ep, eok⟩ := e2
                  dsimp only at t1 t6
                  obtain ⟨F, hF⟩ : ∃ F, fnL S (E.drop (k2 + 1)) (k2 + 1) = F := ⟨_, rfl⟩
                  rw [hF] at HST ⊢
                  clear hcc he2 hF
                  cases eok with
                  | false =>
                    have HFN := Lib.hid (show fnL S (E.drop k2) k2 = F by rw [HST.out, if_neg (by unfold hitO; simp)])
                    go_wp2_with fail
                    go_roundw
                    case rel => exact ⟨k2, by omega, by rw [HFN.out], rfl, by first | rfl | trivial⟩
                    case measure => simp [intOf] <;> omega
                  | true =>
                    obtain ⟨q, hq⟩ : ∃ q, (etx.toList == S.toList) = q := ⟨_, rfl⟩
                    have HHQ := Lib.hid (show hitO S ⟨etx, ep, true⟩ = q by unfold hitO nmQ; rw [hq]; rfl)
                    cases q with
                    | false =>
                      have HFN := Lib.hid (show fnL S (E.drop k2) k2 = F by rw [HST.out, if_neg (by rw [HHQ.out]; simp)])
                      go_wp2_with fail
                      go_roundw
                      case rel => exact ⟨k2, by omega, by rw [HFN.out], rfl, by first | rfl | trivial⟩
                      case measure => simp [intOf] <;> omega
                    | true =>
                      have HFN := Lib.hid (show fnL S (E.drop k2) k2 = (k2 : Int) by rw [HST.out, if_pos HHQ.out])
                      go_wp2_with fail
                      go_roundw
                      case rel => exact ⟨k2, by omega, by rw [HFN.out], rfl, by first | rfl | trivial⟩
                      case measure => simp [intOf] <;> omega
                | zero =>
                  rw [show ((0 : Nat) : Int) - 1 = -1 from rfl, List.drop_zero, HFN0.out]
                  clear hj
                  obtain ⟨e3, b1, o1, b2, o2, b3, he3, rfl, rfl, rfl, hb3, hcc⟩ := HS5.out.at_ k (by rw [HE.out.1]; exact hkm)
                  have hee : e3 = e := by rw [HKE.out] at he3; injection he3 with he3; exact he3.symm
                  subst hee
                  have HCC := Lib.hid hcc
                  have HB3k := Lib.hid hb3
                  obtain ⟨etx, ⟨pv, pn, pt, pe⟩, eok⟩ := e3
                  dsimp only at HCC hq
                  clear hcc he3 hb3
                  have hqf : (pt.toList == og.toList) = false := hq
                  go_upto_region 22 with fail
                  try simp only [List.cons_append, List.nil_append]
                  refine wp_region_held_drew (S := fun wz => Below wr.heap.size wr wz) (by kernel_rfl) ((Below.refl _ _).drew) (fun hHeld => ?_)
                  refine take_at (some 85) (i := 0) (v := ?_) rfl rfl (by kernel_rfl) (by kernel_rfl) (by kernel_rfl) (fun _ _ _ h => h) (Or.inl ⟨by kernel_rfl, ?_⟩) hHeld ?_
                  rotate_left
                  · intro wz hSw; go_simp; try (with_reducible rfl)
                  try simp only [Act.put, List.setIfInBounds_toArray, List.set_cons_zero, List.set_cons_succ, List.getElem_toArray, List.getElem_cons_succ, List.getElem_cons_zero]
                  refine take_at (some 86) (i := 1) (v := ?_) rfl rfl (by kernel_rfl) (by kernel_rfl) (by kernel_rfl) (fun _ _ _ h => h) (Or.inl ⟨by kernel_rfl, ?_⟩) hHeld ?_
                  rotate_left
                  · intro wz hSw; go_simp; try (with_reducible rfl)
                  try simp only [Act.put, List.setIfInBounds_toArray, List.set_cons_zero, List.set_cons_succ, List.getElem_toArray, List.getElem_cons_succ, List.getElem_cons_zero]
                  refine take_at (some 87) (i := 2) (v := ?_) rfl rfl (by kernel_rfl) (by kernel_rfl) (by kernel_rfl) (fun _ _ _ h => h) (Or.inl ⟨by kernel_rfl, ?_⟩) hHeld ?_
                  rotate_left
                  · intro wz hSw; go_simp; try (with_reducible rfl)
                  try simp only [Act.put, List.setIfInBounds_toArray, List.set_cons_zero, List.set_cons_succ, List.getElem_toArray, List.getElem_cons_succ, List.getElem_cons_zero]
                  refine take_at (some 88) (i := 3) (v := ?_) rfl rfl (by kernel_rfl) (by kernel_rfl) (by kernel_rfl) (fun _ _ _ h => h) (Or.inl ⟨by kernel_rfl, ?_⟩) hHeld ?_
                  rotate_left
                  · intro wz hSw; go_simp; try (with_reducible rfl)
                  try simp only [Act.put, List.setIfInBounds_toArray, List.set_cons_zero, List.set_cons_succ, List.getElem_toArray, List.getElem_cons_succ, List.getElem_cons_zero]
                  refine take_at (some 89) (i := 4) (v := ?_) rfl rfl (by kernel_rfl) (by kernel_rfl) (by kernel_rfl) (fun _ _ _ h => h) (Or.inl ⟨by kernel_rfl, ?_⟩) hHeld ?_
                  rotate_left
                  · intro wz hSw; go_simp; try (with_reducible rfl)
                  try simp only [Act.put, List.setIfInBounds_toArray, List.set_cons_zero, List.set_cons_succ, List.getElem_toArray, List.getElem_cons_succ, List.getElem_cons_zero]
                  refine take_at (some 90) (i := 5) (v := ?_) rfl rfl (by kernel_rfl) (by kernel_rfl) (by kernel_rfl) (fun _ _ _ h => h) (Or.inl ⟨by kernel_rfl, ?_⟩) hHeld ?_
                  rotate_left
                  · intro wz hSw; go_simp; try (with_reducible rfl)
                  try simp only [Act.put, List.setIfInBounds_toArray, List.set_cons_zero, List.set_cons_succ, List.getElem_toArray, List.getElem_cons_succ, List.getElem_cons_zero]
                  refine take_at (some 91) (i := 6) (v := ?_) rfl rfl (by kernel_rfl) (by kernel_rfl) (by kernel_rfl) (fun _ _ _ h => h) (Or.inl ⟨by kernel_rfl, ?_⟩) hHeld ?_
                  rotate_left
                  · intro wz hSw; go_simp; try (with_reducible rfl)
                  try simp only [Act.put, List.setIfInBounds_toArray, List.set_cons_zero, List.set_cons_succ, List.getElem_toArray, List.getElem_cons_succ, List.getElem_cons_zero]
                  refine take_at (some 92) (i := 7) (v := ?_) rfl rfl (by kernel_rfl) (by kernel_rfl) (by kernel_rfl) (fun _ _ _ h => h) (Or.inl ⟨by kernel_rfl, ?_⟩) hHeld ?_
                  rotate_left
                  · intro wz hSw; go_simp; try (with_reducible rfl)
                  try simp only [Act.put, List.setIfInBounds_toArray, List.set_cons_zero, List.set_cons_succ, List.getElem_toArray, List.getElem_cons_succ, List.getElem_cons_zero]
                  refine take_at (some 93) (i := 8) (v := ?_) rfl rfl (by kernel_rfl) (by kernel_rfl) (by kernel_rfl) (fun _ _ _ h => h) (Or.inl ⟨by kernel_rfl, ?_⟩) hHeld ?_
                  rotate_left
                  · intro wz hSw; go_simp; try (with_reducible rfl)
                  try simp only [Act.put, List.setIfInBounds_toArray, List.set_cons_zero, List.set_cons_succ, List.getElem_toArray, List.getElem_cons_succ, List.getElem_cons_zero]
                  refine take_at (some 94) (i := 9) (v := undef) rfl rfl (by kernel_rfl) (by kernel_rfl) (by kernel_rfl) (fun _ _ _ h => h) (Or.inr ⟨by kernel_rfl, rfl⟩) hHeld ?_
                  try simp only [Act.put, List.setIfInBounds_toArray, List.set_cons_zero, List.set_cons_succ, List.getElem_toArray, List.getElem_cons_succ, List.getElem_cons_zero]
                  refine take_at (some 95) (i := 10) (v := undef) rfl rfl (by kernel_rfl) (by kernel_rfl) (by kernel_rfl) (fun _ _ _ h => h) (Or.inr ⟨by kernel_rfl, rfl⟩) hHeld ?_
                  try simp only [Act.put, List.setIfInBounds_toArray, List.set_cons_zero, List.set_cons_succ, List.getElem_toArray, List.getElem_cons_succ, List.getElem_cons_zero]
                  refine take_at (some 96) (i := 11) (v := undef) rfl rfl (by kernel_rfl) (by kernel_rfl) (by kernel_rfl) (fun _ _ _ h => h) (Or.inr ⟨by kernel_rfl, rfl⟩) hHeld ?_
                  try simp only [Act.put, List.setIfInBounds_toArray, List.set_cons_zero, List.set_cons_succ, List.getElem_toArray, List.getElem_cons_succ, List.getElem_cons_zero]
                  refine take_at (some 97) (i := 12) (v := undef) rfl rfl (by kernel_rfl) (by kernel_rfl) (by kernel_rfl) (fun _ _ _ h => h) (Or.inr ⟨by kernel_rfl, rfl⟩) hHeld ?_
                  try simp only [Act.put, List.setIfInBounds_toArray, List.set_cons_zero, List.set_cons_succ, List.getElem_toArray, List.getElem_cons_succ, List.getElem_cons_zero]
                  refine take_at (some 98) (i := 13) (v := undef) rfl rfl (by kernel_rfl) (by kernel_rfl) (by kernel_rfl) (fun _ _ _ h => h) (Or.inr ⟨by kernel_rfl, rfl⟩) hHeld ?_
                  try simp only [Act.put, List.setIfInBounds_toArray, List.set_cons_zero, List.set_cons_succ, List.getElem_toArray, List.getElem_cons_succ, List.getElem_cons_zero]
                  refine take_at (some 99) (i := 14) (v := undef) rfl rfl (by kernel_rfl) (by kernel_rfl) (by kernel_rfl) (fun _ _ _ h => h) (Or.inr ⟨by kernel_rfl, rfl⟩) hHeld ?_
                  try simp only [Act.put, List.setIfInBounds_toArray, List.set_cons_zero, List.set_cons_succ, List.getElem_toArray, List.getElem_cons_succ, List.getElem_cons_zero]
                  refine take_at (some 100) (i := 15) (v := undef) rfl rfl (by kernel_rfl) (by kernel_rfl) (by kernel_rfl) (fun _ _ _ h => h) (Or.inr ⟨by kernel_rfl, rfl⟩) hHeld ?_
                  try simp only [Act.put, List.setIfInBounds_toArray, List.set_cons_zero, List.set_cons_succ, List.getElem_toArray, List.getElem_cons_succ, List.getElem_cons_zero]
                  refine take_at (some 101) (i := 16) (v := undef) rfl rfl (by kernel_rfl) (by kernel_rfl) (by kernel_rfl) (fun _ _ _ h => h) (Or.inr ⟨by kernel_rfl, rfl⟩) hHeld ?_
                  try simp only [Act.put, List.setIfInBounds_toArray, List.set_cons_zero, List.set_cons_succ, List.getElem_toArray, List.getElem_cons_succ, List.getElem_cons_zero]
                  refine take_at (some 102) (i := 17) (v := undef) rfl rfl (by kernel_rfl) (by kernel_rfl) (by kernel_rfl) (fun _ _ _ h => h) (Or.inr ⟨by kernel_rfl, rfl⟩) hHeld ?_
                  try simp only [Act.put, List.setIfInBounds_toArray, List.set_cons_zero, List.set_cons_succ, List.getElem_toArray, List.getElem_cons_succ, List.getElem_cons_zero]
                  refine take_at (some 103) (i := 18) (v := undef) rfl rfl (by kernel_rfl) (by kernel_rfl) (by kernel_rfl) (fun _ _ _ h => h) (Or.inr ⟨by kernel_rfl, rfl⟩) hHeld ?_
                  try simp only [Act.put, List.setIfInBounds_toArray, List.set_cons_zero, List.set_cons_succ, List.getElem_toArray, List.getElem_cons_succ, List.getElem_cons_zero]
                  refine take_at (some 104) (i := 19) (v := undef) rfl rfl (by kernel_rfl) (by kernel_rfl) (by kernel_rfl) (fun _ _ _ h => h) (Or.inr ⟨by kernel_rfl, rfl⟩) hHeld ?_
                  try simp only [Act.put, List.setIfInBounds_toArray, List.set_cons_zero, List.set_cons_succ, List.getElem_toArray, List.getElem_cons_succ, List.getElem_cons_zero]
                  refine take_at (some 105) (i := 20) (v := undef) rfl rfl (by kernel_rfl) (by kernel_rfl) (by kernel_rfl) (fun _ _ _ h => h) (Or.inr ⟨by kernel_rfl, rfl⟩) hHeld ?_
                  try simp only [Act.put, List.setIfInBounds_toArray, List.set_cons_zero, List.set_cons_succ, List.getElem_toArray, List.getElem_cons_succ, List.getElem_cons_zero]
                  refine take_at (some 106) (i := 21) (v := undef) rfl rfl (by kernel_rfl) (by kernel_rfl) (by kernel_rfl) (fun _ _ _ h => h) (Or.inr ⟨by kernel_rfl, rfl⟩) hHeld ?_
                  try simp only [Act.put, List.setIfInBounds_toArray, List.set_cons_zero, List.set_cons_succ, List.getElem_toArray, List.getElem_cons_succ, List.getElem_cons_zero]
                  refine take_at (some 107) (i := 22) (v := ?_) rfl rfl (by kernel_rfl) (by kernel_rfl) (by kernel_rfl) (fun _ _ _ h => h) (Or.inl ⟨by kernel_rfl, ?_⟩) hHeld ?_
                  rotate_left
                  · intro wz hSw; go_simp; try (with_reducible rfl)
                  try simp only [Act.put, List.setIfInBounds_toArray, List.set_cons_zero, List.set_cons_succ, List.getElem_toArray, List.getElem_cons_succ, List.getElem_cons_zero]
                  refine take_at (some 108) (i := 23) (v := ?_) rfl rfl (by kernel_rfl) (by kernel_rfl) (by kernel_rfl) (fun _ _ _ h => h) (Or.inl ⟨by kernel_rfl, ?_⟩) hHeld ?_
                  rotate_left
                  · intro wz hSw; go_simp; try (with_reducible rfl)
                  try simp only [Act.put, List.setIfInBounds_toArray, List.set_cons_zero, List.set_cons_succ, List.getElem_toArray, List.getElem_cons_succ, List.getElem_cons_zero]
                  refine take_at (some 109) (i := 24) (v := ?_) rfl rfl (by kernel_rfl) (by kernel_rfl) (by kernel_rfl) (fun _ _ _ h => h) (Or.inl ⟨by kernel_rfl, ?_⟩) hHeld ?_
                  rotate_left
                  · intro wz hSw; go_simp; try (with_reducible rfl)
                  try simp only [Act.put, List.setIfInBounds_toArray, List.set_cons_zero, List.set_cons_succ, List.getElem_toArray, List.getElem_cons_succ, List.getElem_cons_zero]
                  refine take_at (some 110) (i := 25) (v := ?_) rfl rfl (by kernel_rfl) (by kernel_rfl) (by kernel_rfl) (fun _ _ _ h => h) (Or.inl ⟨by kernel_rfl, ?_⟩) hHeld ?_
                  rotate_left
                  · intro wz hSw; go_simp; try (with_reducible rfl)
                  try simp only [Act.put, List.setIfInBounds_toArray, List.set_cons_zero, List.set_cons_succ, List.getElem_toArray, List.getElem_cons_succ, List.getElem_cons_zero]
                  refine take_at (some 111) (i := 26) (v := ?_) rfl rfl (by kernel_rfl) (by kernel_rfl) (by kernel_rfl) (fun _ _ _ h => h) (Or.inl ⟨by kernel_rfl, ?_⟩) hHeld ?_
                  rotate_left
                  · intro wz hSw; go_simp; try (with_reducible rfl)
                  try simp only [Act.put, List.setIfInBounds_toArray, List.set_cons_zero, List.set_cons_succ, List.getElem_toArray, List.getElem_cons_succ, List.getElem_cons_zero]
                  refine take_at (some 112) (i := 27) (v := ?_) rfl rfl (by kernel_rfl) (by kernel_rfl) (by kernel_rfl) (fun _ _ _ h => h) (Or.inl ⟨by kernel_rfl, ?_⟩) hHeld ?_
                  rotate_left
                  · intro wz hSw; go_simp; try (with_reducible rfl)
                  try simp only [Act.put, List.setIfInBounds_toArray, List.set_cons_zero, List.set_cons_succ, List.getElem_toArray, List.getElem_cons_succ, List.getElem_cons_zero]
                  refine take_at (some 113) (i := 28) (v := ?_) rfl rfl (by kernel_rfl) (by kernel_rfl) (by kernel_rfl) (fun _ _ _ h => h) (Or.inl ⟨by kernel_rfl, ?_⟩) hHeld ?_
                  rotate_left
                  · intro wz hSw; go_simp; try (with_reducible rfl)
                  try simp only [Act.put, List.setIfInBounds_toArray, List.set_cons_zero, List.set_cons_succ, List.getElem_toArray, List.getElem_cons_succ, List.getElem_cons_zero]
                  refine take_at (some 114) (i := 29) (v := ?_) rfl rfl (by kernel_rfl) (by kernel_rfl) (by kernel_rfl) (fun _ _ _ h => h) (Or.inl ⟨by kernel_rfl, ?_⟩) hHeld ?_
                  rotate_left
                  · intro wz hSw; go_simp; try (with_reducible rfl)
                  try simp only [Act.put, List.setIfInBounds_toArray, List.set_cons_zero, List.set_cons_succ, List.getElem_toArray, List.getElem_cons_succ, List.getElem_cons_zero]
                  refine take_at (some 115) (i := 30) (v := ?_) rfl rfl (by kernel_rfl) (by kernel_rfl) (by kernel_rfl) (fun _ _ _ h => h) (Or.inl ⟨by kernel_rfl, ?_⟩) hHeld ?_
                  rotate_left
                  · intro wz hSw; go_simp; try (with_reducible rfl)
                  try simp only [Act.put, List.setIfInBounds_toArray, List.set_cons_zero, List.set_cons_succ, List.getElem_toArray, List.getElem_cons_succ, List.getElem_cons_zero]
                  refine take_at (some 116) (i := 31) (v := ?_) rfl rfl (by kernel_rfl) (by kernel_rfl) (by kernel_rfl) (fun _ _ _ h => h) (Or.inl ⟨by kernel_rfl, ?_⟩) hHeld ?_
                  rotate_left
                  · intro wz hSw; go_simp; try (with_reducible rfl)
                  try simp only [Act.put, List.setIfInBounds_toArray, List.set_cons_zero, List.set_cons_succ, List.getElem_toArray, List.getElem_cons_succ, List.getElem_cons_zero]
                  refine take_at (some 117) (i := 32) (v := ?_) rfl rfl (by kernel_rfl) (by kernel_rfl) (by kernel_rfl) (fun _ _ _ h => h) (Or.inl ⟨by kernel_rfl, ?_⟩) hHeld ?_
                  rotate_left
                  · intro wz hSw; obtain ⟨_, r1, r2, r3, r4, _⟩ := HCC.out wz hSw; go_simp; try (with_reducible rfl)
                  try simp only [Act.put, List.setIfInBounds_toArray, List.set_cons_zero, List.set_cons_succ, List.getElem_toArray, List.getElem_cons_succ, List.getElem_cons_zero]
                  refine take_at (some 118) (i := 33) (v := ?_) rfl rfl (by kernel_rfl) (by kernel_rfl) (by kernel_rfl) (fun _ _ _ h => h) (Or.inl ⟨by kernel_rfl, ?_⟩) hHeld ?_
                  rotate_left
                  · intro wz hSw; go_simp; try (with_reducible rfl)
                  try simp only [Act.put, List.setIfInBounds_toArray, List.set_cons_zero, List.set_cons_succ, List.getElem_toArray, List.getElem_cons_succ, List.getElem_cons_zero]
                  refine take_at (some 119) (i := 34) (v := ?_) rfl rfl (by kernel_rfl) (by kernel_rfl) (by kernel_rfl) (fun _ _ _ h => h) (Or.inl ⟨by kernel_rfl, ?_⟩) hHeld ?_
                  rotate_left
                  · intro wz hSw; have e8 : wz.cell? ⟨kb, 8, none⟩ = some (.string og) := (HB5.out.b.below hSw HB5.out.b.lt).cell 8; go_simp; try (with_reducible rfl)
                  try simp only [Act.put, List.setIfInBounds_toArray, List.set_cons_zero, List.set_cons_succ, List.getElem_toArray, List.getElem_cons_succ, List.getElem_cons_zero]
                  refine take_at (some 120) (i := 35) (v := ?_) rfl rfl (by kernel_rfl) (by kernel_rfl) (by kernel_rfl) (fun _ _ _ h => h) (Or.inl ⟨by kernel_rfl, ?_⟩) hHeld ?_
                  rotate_left
                  · intro wz hSw; go_simp; try (with_reducible rfl)
                  try simp only [Act.put, List.setIfInBounds_toArray, List.set_cons_zero, List.set_cons_succ, List.getElem_toArray, List.getElem_cons_succ, List.getElem_cons_zero]
                  refine take_at (some 121) (i := 36) (v := ?_) rfl rfl (by kernel_rfl) (by kernel_rfl) (by kernel_rfl) (fun _ _ _ h => h) (Or.inl ⟨by kernel_rfl, ?_⟩) hHeld ?_
                  rotate_left
                  · intro wz hSw; go_simp; try (with_reducible rfl)
                  try simp only [Act.put, List.setIfInBounds_toArray, List.set_cons_zero, List.set_cons_succ, List.getElem_toArray, List.getElem_cons_succ, List.getElem_cons_zero]
                  refine take_at (some 122) (i := 37) (v := ?_) rfl rfl (by kernel_rfl) (by kernel_rfl) (by kernel_rfl) (fun _ _ _ h => h) (Or.inl ⟨by kernel_rfl, ?_⟩) hHeld ?_
                  rotate_left
                  · intro wz hSw; go_simp; try (with_reducible rfl)
                  try simp only [Act.put, List.setIfInBounds_toArray, List.set_cons_zero, List.set_cons_succ, List.getElem_toArray, List.getElem_cons_succ, List.getElem_cons_zero]
                  refine wpAnyH_done (by kernel_rfl) ?_ _
                  clear hHeld
                  have hbd := (Below.refl wr.heap.size wr).drew
                  have HZ6 := Lib.hid (HZ5.out.on hbd)
                  have HS6 := Lib.hid (HS5.out.on hbd)
                  clear hbd
                  have HE2 := Lib.hid (show E.length = m ∧ m ≤ i + 1 ∧ (goodL E).length = nn ∧ Gk ⟨(m : Int), goodL E⟩ ∧ ∀ e ∈ E, e.tx.size ≤ 1099511627776 from ⟨HE.out.1, by omega, HE.out.2.2⟩)
                  go_wp2_with (go_at_call 20; (with_reducible refine (z_many HZ6.out nn (HE2.out.2.2.1)).mono ?_); rintro e w9 ⟨rfl, hb⟩; have HZ9 := Lib.hid (HZ6.out.on hb); have HS9 := Lib.hid (HS6.out.on hb); clear hb)
                  go_roundw
                  case rel => exact ⟨i + 1, m, nn, E, H4, some ⟨b1, o1, none⟩, c1, some ⟨b2, o2, none⟩, c2, some ⟨b3, 0, none⟩, c3, by omega, rfl, rfl, rfl, by first | rfl | go_num, by go_num, HZ9, HS9, HE2⟩
                  case measure => simp [intOf] <;> omega
            | true =>
              have HRD := Lib.hid (once_ok (se := (m : Int)) hke h0 he hq)
              have HKE := Lib.hid hke
              obtain ⟨⟨pv, pn, pt, pe⟩, hep⟩ : ∃ p, e.p = p := ⟨_, rfl⟩
              rw [hep] at HRD hq
              have HEP := Lib.hid hep
              clear hep
              go_upto_region 16 with (go_at_call 13; (with_reducible refine (z_redeem HZ3.out HE.out.2.2.2.1 S og ⟨pv, pn, pt, pe⟩ 0 _ (HRD.out.1) HSZ.out).mono ?_); rintro e u4 ⟨H4, rfl, h1, h2⟩; have HZ4 := Lib.hid h1; have HS4 := Lib.hid (HS3.out.step h2); have HB4 := Lib.hid (HB3.out.step h2); clear h1 h2)
              try simp only [zeroPs]
              clear e0 e1 e2 e3 e4 e5 e6 e7 e8
              obtain ⟨gx, hgx⟩ : ∃ gx, u4.heap.size = gx := ⟨_, rfl⟩
              obtain ⟨u5, hu5⟩ : ∃ u5, u4.alloc (.cells #[.int .i64 pv, .string pn, .string pt, .int .i64 pe] 31) = u5 := ⟨_, rfl⟩
              have hb5 : Below u4.heap.size u4 u5 := by rw [← hu5]; exact (Below.refl _ _).alloc (Nat.le_refl _) _
              have HX5 := Lib.hid (show Bk u5 gx 31 #[.int .i64 pv, .string pn, .string pt, .int .i64 pe] by rw [← hu5, ← hgx]; exact Bk.new _ _ _)
              have HZ5 := Lib.hid (HZ4.out.on hb5)
              have HS5 := Lib.hid (HS4.out.on hb5)
              have HB5 := Lib.hid (HB4.out.on hb5)
              try rw [hu5]
              try rw [hgx]
              clear hu5 hgx hb5
              clear h0 he hke
              go_wp2_with fail
              go_loopw [16, 17] (fun v16 v17 wr2 => ∃ (j : Nat), j ≤ m ∧ v16 = .int .i64 (fnL S (E.drop j) j) ∧ v17 = .int .i64 ((j : Int) - 1) ∧ wr2 = u5) (fun v16 v17 _ => (intOf v17 + 1).toNat)
              case atStart => exact ⟨m, Nat.le_refl _, by rw [List.drop_of_length_le (by rw [HE.out.1]; exact Nat.le_refl _)]; rfl, rfl, by first | rfl | trivial⟩
              case round =>
                obtain ⟨j, hj, rfl, rfl, hwr2⟩ := hrel
                subst hwr2
                cases j with
                | succ k2 =>
                  rw [show (((k2 + 1 : Nat)) : Int) - 1 = (k2 : Int) by omega]
                  have hk2 : (k2 : Int) < (m : Int) := by omega
                  have hk3 : (k2 : Int) ≥ 0 := by omega
                  have hwk : IntKind.i64.wrap ((k2 : Int) - 1) = (k2 : Int) - 1 := by rw [IntKind.wrap_i64]; omega
                  obtain ⟨e2, b1, o1, b2, o2, b3, he2, rfl, rfl, rfl, _, hcc⟩ := HS5.out.at_ k2 (by rw [HE.out.1]; omega)
                  have HST := Lib.hid (fn_step (s := S) he2)
                  obtain ⟨t1, _, _, _, _, t6⟩ := hcc wr (Below.refl _ _)
                  obtain ⟨etx, ep, eok⟩ := e2
                  dsimp only at t1 t6
                  obtain ⟨F, hF⟩ : ∃ F, fnL S (E.drop (k2 + 1)) (k2 + 1) = F := ⟨_, rfl⟩
                  rw [hF] at HST ⊢
                  clear hcc he2 hF
                  cases eok with
                  | false =>
                    have HFN := Lib.hid (show fnL S (E.drop k2) k2 = F by rw [HST.out, if_neg (by unfold hitO; simp)])
                    go_wp2_with fail
                    go_roundw
                    case rel => exact ⟨k2, by omega, by rw [HFN.out], rfl, by first | rfl | trivial⟩
                    case measure => simp [intOf] <;> omega
                  | true =>
                    obtain ⟨q, hq⟩ : ∃ q, (etx.toList == S.toList) = q := ⟨_, rfl⟩
                    have HHQ := Lib.hid (show hitO S ⟨etx, ep, true⟩ = q by unfold hitO nmQ; rw [hq]; rfl)
                    cases q with
                    | false =>
                      have HFN := Lib.hid (show fnL S (E.drop k2) k2 = F by rw [HST.out, if_neg (by rw [HHQ.out]; simp)])
                      go_wp2_with fail
                      go_roundw
                      case rel => exact ⟨k2, by omega, by rw [HFN.out], rfl, by first | rfl | trivial⟩
                      case measure => simp [intOf] <;> omega
                    | true =>
                      have HFN := Lib.hid (show fnL S (E.drop k2) k2 = (k2 : Int) by rw [HST.out, if_pos HHQ.out])
                      go_wp2_with fail
                      go_roundw
                      case rel => exact ⟨k2, by omega, by rw [HFN.out], rfl, by first | rfl | trivial⟩
                      case measure => simp [intOf] <;> omega
                | zero =>
                  rw [show ((0 : Nat) : Int) - 1 = -1 from rfl, List.drop_zero, HFN0.out]
                  clear hj
                  obtain ⟨e3, b1, o1, b2, o2, b3, he3, rfl, rfl, rfl, hb3, hcc⟩ := HS5.out.at_ k (by rw [HE.out.1]; exact hkm)
                  have hee : e3 = e := by rw [HKE.out] at he3; injection he3 with he3; exact he3.symm
                  subst hee
                  have HB3k := Lib.hid hb3
                  rw [HEP.out] at hcc
                  have HCC := Lib.hid hcc
                  have hqt : (pt.toList == og.toList) = true := hq
                  have hqt2 : (pt.toList != og.toList) = false := by rw [bne, hqt]; rfl
                  have HPE := Lib.hid (eqP_same ⟨pv, pn, pt, pe⟩)
                  clear hcc he3 hb3
                  go_upto_region 22 with fail
                  try simp only [List.cons_append, List.nil_append]
                  refine wp_region_held_drew (S := fun wz => Below wr.heap.size wr wz) (by kernel_rfl) ((Below.refl _ _).drew) (fun hHeld => ?_)
                  refine take_at (some 85) (i := 0) (v := ?_) rfl rfl (by kernel_rfl) (by kernel_rfl) (by kernel_rfl) (fun _ _ _ h => h) (Or.inl ⟨by kernel_rfl, ?_⟩) hHeld ?_
                  rotate_left
                  · intro wz hSw; go_simp; try (with_reducible rfl)
                  try simp only [Act.put, List.setIfInBounds_toArray, List.set_cons_zero, List.set_cons_succ, List.getElem_toArray, List.getElem_cons_succ, List.getElem_cons_zero]
                  refine take_at (some 86) (i := 1) (v := ?_) rfl rfl (by kernel_rfl) (by kernel_rfl) (by kernel_rfl) (fun _ _ _ h => h) (Or.inl ⟨by kernel_rfl, ?_⟩) hHeld ?_
                  rotate_left
                  · intro wz hSw; go_simp; try (with_reducible rfl)
                  try simp only [Act.put, List.setIfInBounds_toArray, List.set_cons_zero, List.set_cons_succ, List.getElem_toArray, List.getElem_cons_succ, List.getElem_cons_zero]
                  refine take_at (some 87) (i := 2) (v := ?_) rfl rfl (by kernel_rfl) (by kernel_rfl) (by kernel_rfl) (fun _ _ _ h => h) (Or.inl ⟨by kernel_rfl, ?_⟩) hHeld ?_
                  rotate_left
                  · intro wz hSw; go_simp; try (with_reducible rfl)
                  try simp only [Act.put, List.setIfInBounds_toArray, List.set_cons_zero, List.set_cons_succ, List.getElem_toArray, List.getElem_cons_succ, List.getElem_cons_zero]
                  refine take_at (some 88) (i := 3) (v := ?_) rfl rfl (by kernel_rfl) (by kernel_rfl) (by kernel_rfl) (fun _ _ _ h => h) (Or.inl ⟨by kernel_rfl, ?_⟩) hHeld ?_
                  rotate_left
                  · intro wz hSw; go_simp; try (with_reducible rfl)
                  try simp only [Act.put, List.setIfInBounds_toArray, List.set_cons_zero, List.set_cons_succ, List.getElem_toArray, List.getElem_cons_succ, List.getElem_cons_zero]
                  refine take_at (some 89) (i := 4) (v := ?_) rfl rfl (by kernel_rfl) (by kernel_rfl) (by kernel_rfl) (fun _ _ _ h => h) (Or.inl ⟨by kernel_rfl, ?_⟩) hHeld ?_
                  rotate_left
                  · intro wz hSw; go_simp; try (with_reducible rfl)
                  try simp only [Act.put, List.setIfInBounds_toArray, List.set_cons_zero, List.set_cons_succ, List.getElem_toArray, List.getElem_cons_succ, List.getElem_cons_zero]
                  refine take_at (some 90) (i := 5) (v := ?_) rfl rfl (by kernel_rfl) (by kernel_rfl) (by kernel_rfl) (fun _ _ _ h => h) (Or.inl ⟨by kernel_rfl, ?_⟩) hHeld ?_
                  rotate_left
                  · intro wz hSw; go_simp; try (with_reducible rfl)
                  try simp only [Act.put, List.setIfInBounds_toArray, List.set_cons_zero, List.set_cons_succ, List.getElem_toArray, List.getElem_cons_succ, List.getElem_cons_zero]
                  refine take_at (some 91) (i := 6) (v := ?_) rfl rfl (by kernel_rfl) (by kernel_rfl) (by kernel_rfl) (fun _ _ _ h => h) (Or.inl ⟨by kernel_rfl, ?_⟩) hHeld ?_
                  rotate_left
                  · intro wz hSw; go_simp; try (with_reducible rfl)
                  try simp only [Act.put, List.setIfInBounds_toArray, List.set_cons_zero, List.set_cons_succ, List.getElem_toArray, List.getElem_cons_succ, List.getElem_cons_zero]
                  refine take_at (some 92) (i := 7) (v := ?_) rfl rfl (by kernel_rfl) (by kernel_rfl) (by kernel_rfl) (fun _ _ _ h => h) (Or.inl ⟨by kernel_rfl, ?_⟩) hHeld ?_
                  rotate_left
                  · intro wz hSw; go_simp; try (with_reducible rfl)
                  try simp only [Act.put, List.setIfInBounds_toArray, List.set_cons_zero, List.set_cons_succ, List.getElem_toArray, List.getElem_cons_succ, List.getElem_cons_zero]
                  refine take_at (some 93) (i := 8) (v := ?_) rfl rfl (by kernel_rfl) (by kernel_rfl) (by kernel_rfl) (fun _ _ _ h => h) (Or.inl ⟨by kernel_rfl, ?_⟩) hHeld ?_
                  rotate_left
                  · intro wz hSw; go_simp; try (with_reducible rfl)
                  try simp only [Act.put, List.setIfInBounds_toArray, List.set_cons_zero, List.set_cons_succ, List.getElem_toArray, List.getElem_cons_succ, List.getElem_cons_zero]
                  refine take_at (some 94) (i := 9) (v := ?_) rfl rfl (by kernel_rfl) (by kernel_rfl) (by kernel_rfl) (fun _ _ _ h => h) (Or.inl ⟨by kernel_rfl, ?_⟩) hHeld ?_
                  rotate_left
                  · intro wz hSw; have g0 : wz.cell? ⟨gx, 0, none⟩ = some (.int .i64 pv) := (HX5.out.below hSw HX5.out.lt).cell 0; have g1 : wz.cell? ⟨gx, 1, none⟩ = some (.string pn) := (HX5.out.below hSw HX5.out.lt).cell 1; have g2 : wz.cell? ⟨gx, 2, none⟩ = some (.string pt) := (HX5.out.below hSw HX5.out.lt).cell 2; have g3 : wz.cell? ⟨gx, 3, none⟩ = some (.int .i64 pe) := (HX5.out.below hSw HX5.out.lt).cell 3; go_simp; try (with_reducible rfl)
                  try simp only [Act.put, List.setIfInBounds_toArray, List.set_cons_zero, List.set_cons_succ, List.getElem_toArray, List.getElem_cons_succ, List.getElem_cons_zero]
                  refine take_at (some 95) (i := 10) (v := ?_) rfl rfl (by kernel_rfl) (by kernel_rfl) (by kernel_rfl) (fun _ _ _ h => h) (Or.inl ⟨by kernel_rfl, ?_⟩) hHeld ?_
                  rotate_left
                  · intro wz hSw; go_simp; try (with_reducible rfl)
                  try simp only [Act.put, List.setIfInBounds_toArray, List.set_cons_zero, List.set_cons_succ, List.getElem_toArray, List.getElem_cons_succ, List.getElem_cons_zero]
                  refine take_at (some 96) (i := 11) (v := ?_) rfl rfl (by kernel_rfl) (by kernel_rfl) (by kernel_rfl) (fun _ _ _ h => h) (Or.inl ⟨by kernel_rfl, ?_⟩) hHeld ?_
                  rotate_left
                  · intro wz hSw; go_simp; try (with_reducible rfl)
                  try simp only [Act.put, List.setIfInBounds_toArray, List.set_cons_zero, List.set_cons_succ, List.getElem_toArray, List.getElem_cons_succ, List.getElem_cons_zero]
                  refine take_at (some 97) (i := 12) (v := ?_) rfl rfl (by kernel_rfl) (by kernel_rfl) (by kernel_rfl) (fun _ _ _ h => h) (Or.inl ⟨by kernel_rfl, ?_⟩) hHeld ?_
                  rotate_left
                  · intro wz hSw; go_simp; try (with_reducible rfl)
                  try simp only [Act.put, List.setIfInBounds_toArray, List.set_cons_zero, List.set_cons_succ, List.getElem_toArray, List.getElem_cons_succ, List.getElem_cons_zero]
                  refine take_at (some 98) (i := 13) (v := ?_) rfl rfl (by kernel_rfl) (by kernel_rfl) (by kernel_rfl) (fun _ _ _ h => h) (Or.inl ⟨by kernel_rfl, ?_⟩) hHeld ?_
                  rotate_left
                  · intro wz hSw; obtain ⟨_, r1, r2, r3, r4, _⟩ := HCC.out wz hSw; go_simp; try (with_reducible rfl)
                  try simp only [Act.put, List.setIfInBounds_toArray, List.set_cons_zero, List.set_cons_succ, List.getElem_toArray, List.getElem_cons_succ, List.getElem_cons_zero]
                  refine take_at (some 99) (i := 14) rfl rfl (by kernel_rfl) (by kernel_rfl) (by kernel_rfl) (fun _ _ _ h => h) (yieldsIf_nep (by kernel_rfl) (.tmp 94) (.tmp 98) 31 rfl ⟨pv, pn, pt, pe⟩ ⟨pv, pn, pt, pe⟩ rfl rfl) hHeld ?_
                  try simp only [Act.put, List.setIfInBounds_toArray, List.set_cons_zero, List.set_cons_succ, List.getElem_toArray, List.getElem_cons_succ, List.getElem_cons_zero]
                  try rw [HPE.out]
                  try simp only [Bool.not_true]
                  refine take_at (some 100) (i := 15) (v := ?_) rfl rfl (by kernel_rfl) (by kernel_rfl) (by kernel_rfl) (fun _ _ _ h => h) (Or.inl ⟨by kernel_rfl, ?_⟩) hHeld ?_
                  rotate_left
                  · intro wz hSw; go_simp; try (with_reducible rfl)
                  try simp only [Act.put, List.setIfInBounds_toArray, List.set_cons_zero, List.set_cons_succ, List.getElem_toArray, List.getElem_cons_succ, List.getElem_cons_zero]
                  refine take_at (some 101) (i := 16) (v := ?_) rfl rfl (by kernel_rfl) (by kernel_rfl) (by kernel_rfl) (fun _ _ _ h => h) (Or.inl ⟨by kernel_rfl, ?_⟩) hHeld ?_
                  rotate_left
                  · intro wz hSw; go_simp; try (with_reducible rfl)
                  try simp only [Act.put, List.setIfInBounds_toArray, List.set_cons_zero, List.set_cons_succ, List.getElem_toArray, List.getElem_cons_succ, List.getElem_cons_zero]
                  refine take_at (some 102) (i := 17) (v := ?_) rfl rfl (by kernel_rfl) (by kernel_rfl) (by kernel_rfl) (fun _ _ _ h => h) (Or.inl ⟨by kernel_rfl, ?_⟩) hHeld ?_
                  rotate_left
                  · intro wz hSw; have g0 : wz.cell? ⟨gx, 0, none⟩ = some (.int .i64 pv) := (HX5.out.below hSw HX5.out.lt).cell 0; have g1 : wz.cell? ⟨gx, 1, none⟩ = some (.string pn) := (HX5.out.below hSw HX5.out.lt).cell 1; have g2 : wz.cell? ⟨gx, 2, none⟩ = some (.string pt) := (HX5.out.below hSw HX5.out.lt).cell 2; have g3 : wz.cell? ⟨gx, 3, none⟩ = some (.int .i64 pe) := (HX5.out.below hSw HX5.out.lt).cell 3; go_simp; try (with_reducible rfl)
                  try simp only [Act.put, List.setIfInBounds_toArray, List.set_cons_zero, List.set_cons_succ, List.getElem_toArray, List.getElem_cons_succ, List.getElem_cons_zero]
                  refine take_at (some 103) (i := 18) (v := ?_) rfl rfl (by kernel_rfl) (by kernel_rfl) (by kernel_rfl) (fun _ _ _ h => h) (Or.inl ⟨by kernel_rfl, ?_⟩) hHeld ?_
                  rotate_left
                  · intro wz hSw; go_simp; try (with_reducible rfl)
                  try simp only [Act.put, List.setIfInBounds_toArray, List.set_cons_zero, List.set_cons_succ, List.getElem_toArray, List.getElem_cons_succ, List.getElem_cons_zero]
                  refine take_at (some 104) (i := 19) (v := ?_) rfl rfl (by kernel_rfl) (by kernel_rfl) (by kernel_rfl) (fun _ _ _ h => h) (Or.inl ⟨by kernel_rfl, ?_⟩) hHeld ?_
                  rotate_left
                  · intro wz hSw; have e8 : wz.cell? ⟨kb, 8, none⟩ = some (.string og) := (HB5.out.b.below hSw HB5.out.b.lt).cell 8; go_simp; try (with_reducible rfl)
                  try simp only [Act.put, List.setIfInBounds_toArray, List.set_cons_zero, List.set_cons_succ, List.getElem_toArray, List.getElem_cons_succ, List.getElem_cons_zero]
                  refine take_at (some 105) (i := 20) (v := ?_) rfl rfl (by kernel_rfl) (by kernel_rfl) (by kernel_rfl) (fun _ _ _ h => h) (Or.inl ⟨by kernel_rfl, ?_⟩) hHeld ?_
                  rotate_left
                  · intro wz hSw; go_simp; try (with_reducible rfl)
                  try simp only [Act.put, List.setIfInBounds_toArray, List.set_cons_zero, List.set_cons_succ, List.getElem_toArray, List.getElem_cons_succ, List.getElem_cons_zero]
                  refine take_at (some 106) (i := 21) (v := ?_) rfl rfl (by kernel_rfl) (by kernel_rfl) (by kernel_rfl) (fun _ _ _ h => h) (Or.inl ⟨by kernel_rfl, ?_⟩) hHeld ?_
                  rotate_left
                  · intro wz hSw; go_simp; try (with_reducible rfl)
                  try simp only [Act.put, List.setIfInBounds_toArray, List.set_cons_zero, List.set_cons_succ, List.getElem_toArray, List.getElem_cons_succ, List.getElem_cons_zero]
                  refine take_at (some 107) (i := 22) (v := ?_) rfl rfl (by kernel_rfl) (by kernel_rfl) (by kernel_rfl) (fun _ _ _ h => h) (Or.inl ⟨by kernel_rfl, ?_⟩) hHeld ?_
                  rotate_left
                  · intro wz hSw; go_simp; try (with_reducible rfl)
                  try simp only [Act.put, List.setIfInBounds_toArray, List.set_cons_zero, List.set_cons_succ, List.getElem_toArray, List.getElem_cons_succ, List.getElem_cons_zero]
                  refine take_at (some 108) (i := 23) (v := ?_) rfl rfl (by kernel_rfl) (by kernel_rfl) (by kernel_rfl) (fun _ _ _ h => h) (Or.inl ⟨by kernel_rfl, ?_⟩) hHeld ?_
                  rotate_left
                  · intro wz hSw; go_simp; try (with_reducible rfl)
                  try simp only [Act.put, List.setIfInBounds_toArray, List.set_cons_zero, List.set_cons_succ, List.getElem_toArray, List.getElem_cons_succ, List.getElem_cons_zero]
                  refine take_at (some 109) (i := 24) (v := ?_) rfl rfl (by kernel_rfl) (by kernel_rfl) (by kernel_rfl) (fun _ _ _ h => h) (Or.inl ⟨by kernel_rfl, ?_⟩) hHeld ?_
                  rotate_left
                  · intro wz hSw; go_simp; try (with_reducible rfl)
                  try simp only [Act.put, List.setIfInBounds_toArray, List.set_cons_zero, List.set_cons_succ, List.getElem_toArray, List.getElem_cons_succ, List.getElem_cons_zero]
                  refine take_at (some 110) (i := 25) (v := ?_) rfl rfl (by kernel_rfl) (by kernel_rfl) (by kernel_rfl) (fun _ _ _ h => h) (Or.inl ⟨by kernel_rfl, ?_⟩) hHeld ?_
                  rotate_left
                  · intro wz hSw; go_simp; try (with_reducible rfl)
                  try simp only [Act.put, List.setIfInBounds_toArray, List.set_cons_zero, List.set_cons_succ, List.getElem_toArray, List.getElem_cons_succ, List.getElem_cons_zero]
                  refine take_at (some 111) (i := 26) (v := ?_) rfl rfl (by kernel_rfl) (by kernel_rfl) (by kernel_rfl) (fun _ _ _ h => h) (Or.inl ⟨by kernel_rfl, ?_⟩) hHeld ?_
                  rotate_left
                  · intro wz hSw; go_simp; try (with_reducible rfl)
                  try simp only [Act.put, List.setIfInBounds_toArray, List.set_cons_zero, List.set_cons_succ, List.getElem_toArray, List.getElem_cons_succ, List.getElem_cons_zero]
                  refine take_at (some 112) (i := 27) (v := ?_) rfl rfl (by kernel_rfl) (by kernel_rfl) (by kernel_rfl) (fun _ _ _ h => h) (Or.inl ⟨by kernel_rfl, ?_⟩) hHeld ?_
                  rotate_left
                  · intro wz hSw; go_simp; try (with_reducible rfl)
                  try simp only [Act.put, List.setIfInBounds_toArray, List.set_cons_zero, List.set_cons_succ, List.getElem_toArray, List.getElem_cons_succ, List.getElem_cons_zero]
                  refine take_at (some 113) (i := 28) (v := undef) rfl rfl (by kernel_rfl) (by kernel_rfl) (by kernel_rfl) (fun _ _ _ h => h) (Or.inr ⟨by kernel_rfl, rfl⟩) hHeld ?_
                  try simp only [Act.put, List.setIfInBounds_toArray, List.set_cons_zero, List.set_cons_succ, List.getElem_toArray, List.getElem_cons_succ, List.getElem_cons_zero]
                  refine take_at (some 114) (i := 29) (v := undef) rfl rfl (by kernel_rfl) (by kernel_rfl) (by kernel_rfl) (fun _ _ _ h => h) (Or.inr ⟨by kernel_rfl, rfl⟩) hHeld ?_
                  try simp only [Act.put, List.setIfInBounds_toArray, List.set_cons_zero, List.set_cons_succ, List.getElem_toArray, List.getElem_cons_succ, List.getElem_cons_zero]
                  refine take_at (some 115) (i := 30) (v := undef) rfl rfl (by kernel_rfl) (by kernel_rfl) (by kernel_rfl) (fun _ _ _ h => h) (Or.inr ⟨by kernel_rfl, rfl⟩) hHeld ?_
                  try simp only [Act.put, List.setIfInBounds_toArray, List.set_cons_zero, List.set_cons_succ, List.getElem_toArray, List.getElem_cons_succ, List.getElem_cons_zero]
                  refine take_at (some 116) (i := 31) (v := undef) rfl rfl (by kernel_rfl) (by kernel_rfl) (by kernel_rfl) (fun _ _ _ h => h) (Or.inr ⟨by kernel_rfl, rfl⟩) hHeld ?_
                  try simp only [Act.put, List.setIfInBounds_toArray, List.set_cons_zero, List.set_cons_succ, List.getElem_toArray, List.getElem_cons_succ, List.getElem_cons_zero]
                  refine take_at (some 117) (i := 32) (v := undef) rfl rfl (by kernel_rfl) (by kernel_rfl) (by kernel_rfl) (fun _ _ _ h => h) (Or.inr ⟨by kernel_rfl, rfl⟩) hHeld ?_
                  try simp only [Act.put, List.setIfInBounds_toArray, List.set_cons_zero, List.set_cons_succ, List.getElem_toArray, List.getElem_cons_succ, List.getElem_cons_zero]
                  refine take_at (some 118) (i := 33) (v := undef) rfl rfl (by kernel_rfl) (by kernel_rfl) (by kernel_rfl) (fun _ _ _ h => h) (Or.inr ⟨by kernel_rfl, rfl⟩) hHeld ?_
                  try simp only [Act.put, List.setIfInBounds_toArray, List.set_cons_zero, List.set_cons_succ, List.getElem_toArray, List.getElem_cons_succ, List.getElem_cons_zero]
                  refine take_at (some 119) (i := 34) (v := undef) rfl rfl (by kernel_rfl) (by kernel_rfl) (by kernel_rfl) (fun _ _ _ h => h) (Or.inr ⟨by kernel_rfl, rfl⟩) hHeld ?_
                  try simp only [Act.put, List.setIfInBounds_toArray, List.set_cons_zero, List.set_cons_succ, List.getElem_toArray, List.getElem_cons_succ, List.getElem_cons_zero]
                  refine take_at (some 120) (i := 35) (v := undef) rfl rfl (by kernel_rfl) (by kernel_rfl) (by kernel_rfl) (fun _ _ _ h => h) (Or.inr ⟨by kernel_rfl, rfl⟩) hHeld ?_
                  try simp only [Act.put, List.setIfInBounds_toArray, List.set_cons_zero, List.set_cons_succ, List.getElem_toArray, List.getElem_cons_succ, List.getElem_cons_zero]
                  refine take_at (some 121) (i := 36) (v := ?_) rfl rfl (by kernel_rfl) (by kernel_rfl) (by kernel_rfl) (fun _ _ _ h => h) (Or.inl ⟨by kernel_rfl, ?_⟩) hHeld ?_
                  rotate_left
                  · intro wz hSw; go_simp; try (with_reducible rfl)
                  try simp only [Act.put, List.setIfInBounds_toArray, List.set_cons_zero, List.set_cons_succ, List.getElem_toArray, List.getElem_cons_succ, List.getElem_cons_zero]
                  refine take_at (some 122) (i := 37) (v := ?_) rfl rfl (by kernel_rfl) (by kernel_rfl) (by kernel_rfl) (fun _ _ _ h => h) (Or.inl ⟨by kernel_rfl, ?_⟩) hHeld ?_
                  rotate_left
                  · intro wz hSw; go_simp; try (with_reducible rfl)
                  try simp only [Act.put, List.setIfInBounds_toArray, List.set_cons_zero, List.set_cons_succ, List.getElem_toArray, List.getElem_cons_succ, List.getElem_cons_zero]
                  refine wpAnyH_done (by kernel_rfl) ?_ _
                  clear hHeld
                  have hbd := (Below.refl wr.heap.size wr).drew
                  obtain ⟨u6, hu6⟩ : ∃ u6, wr.drew = u6 := ⟨_, rfl⟩
                  rw [hu6] at hbd
                  try rw [hu6]
                  clear hu6
                  have HZ6 := Lib.hid (HZ5.out.on hbd)
                  have HS6 := Lib.hid (HS5.out.on hbd)
                  have g3 : u6.cell? ⟨b3, k, none⟩ = some (.bool e3.ok) := (HCC.out u6 hbd).2.2.2.2.2
                  have f3 : u6.frozen? ⟨b3, k, none⟩ = false := by
                    obtain ⟨cs3, hcs3⟩ := HB3k.out
                    exact (hcs3.below hbd hcs3.lt).frozen k
                  clear hbd
                  have hwn : IntKind.i64.wrap ((nn : Int) - 1) = ((nn - 1 : Nat) : Int) := (iwrap _ (nn - 1) (by have h1 := HRD.out.2; have h2 := HE.out.2.2.1; omega) (by omega)).1
                  obtain ⟨hs7, ht7⟩ := HS6.out.off HKE.out
                  have HS7 := Lib.hid hs7
                  have HZ7 := Lib.hid (ht7.tz HZ6.out (fun y hy => hy))
                  clear hs7 ht7
                  obtain ⟨n1, hn1⟩ : ∃ n1, nn - 1 = n1 := ⟨_, rfl⟩
                  rw [hn1] at hwn
                  have HE2 := Lib.hid (show (E.set k ⟨e3.tx, e3.p, false⟩).length = m ∧ m ≤ i + 1 ∧ (goodL (E.set k ⟨e3.tx, e3.p, false⟩)).length = n1 ∧ Gk ⟨(m : Int), goodL (E.set k ⟨e3.tx, e3.p, false⟩)⟩ ∧ ∀ e ∈ E.set k ⟨e3.tx, e3.p, false⟩, e.tx.size ≤ 1099511627776 from by
                    refine ⟨by rw [List.length_set]; exact HE.out.1, by omega, ?_, ?_, fun y hy => ?_⟩
                    · have h1 := HRD.out.2; have h2 := HE.out.2.2.1; rw [HEP.out]; omega
                    · have := gk_red HE.out.2.2.2.1 S og
                      rw [HRD.out.1] at this
                      rw [HEP.out]
                      exact this
                    · rcases List.mem_or_eq_of_mem_set hy with hy | rfl
                      · exact HE.out.2.2.2.2 y hy
                      · exact HE.out.2.2.2.2 e3 (List.mem_of_getElem? HKE.out))
                  have HZ8 := Lib.hid (show Tz W (u6.setCell ⟨b3, k, none⟩ (.bool false)) H4 tb key ⟨(m : Int), goodL (E.set k ⟨e3.tx, e3.p, false⟩)⟩ by rw [HEP.out]; exact HZ7.out)
                  go_wp2_with (go_at_call 20; (with_reducible refine (z_many HZ8.out n1 (HE2.out.2.2.1)).mono ?_); rintro e w9 ⟨rfl, hb⟩; have HZ9 := Lib.hid (HZ8.out.on hb); have HS9 := Lib.hid (HS7.out.on hb); clear hb)
                  go_roundw
                  case rel => exact ⟨i + 1, m, n1, E.set k ⟨e3.tx, e3.p, false⟩, H4, some ⟨b1, o1, none⟩, c1, some ⟨b2, o2, none⟩, c2, some ⟨b3, 0, none⟩, c3, by omega, rfl, rfl, rfl, by first | rfl | go_num, by go_num, HZ9, HS9, HE2⟩
                  case measure => simp [intOf] <;> omega
        · have h2b : (ow == 2) = false := by simp [h2]
          by_cases h3 : ow = 3
          · subst h3
            obtain ⟨is, his⟩ : ∃ is, (voiT ⟨(m : Int), goodL E⟩ ov).1 = is := ⟨_, rfl⟩
            have HV := Lib.hid (show voiT ⟨(m : Int), goodL E⟩ ov = (is, ⟨(m : Int), goodL (E.map (offO ov))⟩) from Prod.ext his (once_voi HE.out.2.2.2.1 ov))
            have HIS := Lib.hid his
            clear his
            go_upto_region 29 with (go_at_call 16; (with_reducible refine (z_void HZv.out HE.out.2.2.2.1 ov is _ HV.out).mono ?_); rintro e u3 ⟨H4, rfl, h1, h2⟩; have HZ3 := Lib.hid h1; have HS3 := Lib.hid (HSv.out.step h2); have HB3 := Lib.hid (HB.out.step h2); clear h1 h2)
            clear e0 e1 e2 e3 e4 e5 e6 e7 e8
            go_wp2_with fail
            go_loopw [10, 19] (fun v10 v19 wr2 => ∃ (j n2 : Nat), j ≤ m ∧ v10 = .int .i64 (n2 : Int) ∧ v19 = .int .i64 (j : Int) ∧ Hid (Tz W wr2 H4 tb key ⟨(m : Int), goodL (E.map (offO ov))⟩) ∧ Hid (So5 W wr2 H4 tb key (m : Int) (ofE ov E j) A1 c1 A2 c2 A3 c3) ∧ Hid ((goodL (ofE ov E j)).length = n2) ∧ Hid (Bz wr2 H4 kb 33 #[.int .i64 3, .int .i64 ov, .string on, .string ot, .int .i64 oe, .string od, .int .i64 oa, .string ox, .string og])) (fun v10 v19 _ => m - (intOf v19).toNat)
            case atStart => exact ⟨0, nn, by omega, rfl, rfl, HZ3, Lib.hid (by rw [ofE_0]; exact HS3.out), Lib.hid (by rw [ofE_0]; exact HE.out.2.2.1), HB3⟩
            case round =>
              obtain ⟨j, n2, hj, rfl, rfl, HZ4, HS4, HN4, HB4⟩ := hrel
              by_cases hj1 : j < m
              · have hj2 : (j : Int) < (m : Int) := by omega
                obtain ⟨e2, b1, o1, b2, o2, b3, he2, rfl, rfl, rfl, hb3, hcc⟩ := HS4.out.at_ j (by rw [ofE_len, HE.out.1]; exact hj1)
                obtain ⟨e5, he5⟩ : ∃ e5, E[j]? = some e5 := ⟨_, List.getElem?_eq_getElem (by rw [HE.out.1]; exact hj1)⟩
                have hee : e2 = e5 := by rw [ofE_at he5] at he2; injection he2 with he2; exact he2.symm
                subst hee
                have HK5 := Lib.hid he5
                have HKO := Lib.hid he2
                obtain ⟨t1, t2, t3, t4, t5, t6⟩ := hcc wr (Below.refl _ _)
                have f6 : wr.frozen? ⟨b3, j, none⟩ = false := by
                  obtain ⟨cs3, hcs3⟩ := hb3
                  exact hcs3.frozen j
                obtain ⟨etx, ⟨pv, pn, pt, pe⟩, eok⟩ := e2
                dsimp only at t2 t6
                have e1 : wr.cell? ⟨kb, 1, none⟩ = some (.int .i64 ov) := HB4.out.b.cell 1
                clear t1 t3 t4 t5 hcc hb3 he2 he5
                have hdr : Below wr.heap.size wr wr.drew := (Below.refl _ _).drew
                have HZ5 := Lib.hid (HZ4.out.on hdr)
                have HS5 := Lib.hid (HS4.out.on hdr)
                have HB5 := Lib.hid (HB4.out.on hdr)
                clear hdr
                cases eok with
                | false =>
                  have HOF := Lib.hid (ofE_miss (v := ov) HK5.out rfl)
                  go_wp2_with fail
                  go_region
                  all_goals go_wp2_with fail
                  go_roundw
                  case rel => exact ⟨j + 1, n2, by omega, rfl, by go_num, HZ5, Lib.hid (by rw [HOF.out]; exact HS5.out), Lib.hid (by rw [HOF.out]; exact HN4.out), HB5⟩
                  case measure => simp [intOf] <;> omega
                | true =>
                  obtain ⟨q, hq⟩ : ∃ q, (pv == ov) = q := ⟨_, rfl⟩
                  cases q with
                  | false =>
                    have HOF := Lib.hid (ofE_miss (v := ov) HK5.out (by dsimp only; rw [hq]; rfl))
                    go_wp2_with fail
                    go_region
                    all_goals go_wp2_with fail
                    go_roundw
                    case rel => exact ⟨j + 1, n2, by omega, rfl, by go_num, HZ5, Lib.hid (by rw [HOF.out]; exact HS5.out), Lib.hid (by rw [HOF.out]; exact HN4.out), HB5⟩
                    case measure => simp [intOf] <;> omega
                  | true =>
                    have hpv : pv = ov := by simpa using hq
                    have hit := once_hit (se := (m : Int)) HK5.out rfl hpv
                    have hist : is = true := HIS.out.symm.trans hit
                    subst hist
                    clear hit
                    have HHIT := Lib.hid (ofE_hit HK5.out rfl hpv)
                    have hn200 : n2 ≤ 200 := by have h1 := goodL_le (ofE ov E j); rw [ofE_len, HE.out.1, HN4.out] at h1; omega
                    have hwn : IntKind.i64.wrap ((n2 : Int) - 1) = ((n2 - 1 : Nat) : Int) := (iwrap _ (n2 - 1) (by have h1 := HHIT.out.2; have h2 := HN4.out; omega) (by have h1 := HHIT.out.2; have h2 := HN4.out; omega)).1
                    obtain ⟨n1, hn1⟩ : ∃ n1, n2 - 1 = n1 := ⟨_, rfl⟩
                    rw [hn1] at hwn
                    have HN1 := Lib.hid hn1
                    go_wp2_with fail
                    go_region
                    all_goals
                      have g6 : wr.drew.cell? ⟨b3, j, none⟩ = some (.bool true) := t6
                      have f7 : wr.drew.frozen? ⟨b3, j, none⟩ = false := f6
                      obtain ⟨hs7, ht7⟩ := HS5.out.off HKO.out
                      have HS7 := Lib.hid hs7
                      have HZ7 := Lib.hid (ht7.tz HZ5.out (fun y hy => hy))
                      have HB7 := Lib.hid (ht7.bz HB5.out (by decide))
                      clear hs7 ht7
                      go_wp2_with fail
                      go_roundw
                      case rel => exact ⟨j + 1, n1, by omega, rfl, by go_num, HZ7, Lib.hid (by rw [← ofE_set HK5.out, HHIT.out.1]; exact HS7.out), Lib.hid (by have h1 := HHIT.out.2; have h2 := HN4.out; have h3 := HN1.out; omega), HB7⟩
                      case measure => simp [intOf] <;> omega
              · have hj2 : ¬ (j : Int) < (m : Int) := by omega
                have HOA := Lib.hid (ofE_all ov E (k := j) (by rw [HE.out.1]; omega))
                have HS5 := Lib.hid (show So5 W wr H4 tb key (m : Int) (E.map (offO ov)) A1 c1 A2 c2 A3 c3 by rw [← HOA.out]; exact HS4.out)
                have HE2 := Lib.hid (show (E.map (offO ov)).length = m ∧ m ≤ i + 1 ∧ (goodL (E.map (offO ov))).length = n2 ∧ Gk ⟨(m : Int), goodL (E.map (offO ov))⟩ ∧ ∀ e ∈ E.map (offO ov), e.tx.size ≤ 1099511627776 from by
                  refine ⟨by rw [List.length_map]; exact HE.out.1, by omega, by rw [← HOA.out]; exact HN4.out, ?_, fun y hy => ?_⟩
                  · have := gk_voi HE.out.2.2.2.1 ov
                    rw [HV.out] at this
                    exact this
                  · obtain ⟨z, hz, rfl⟩ := List.mem_map.1 hy
                    unfold offO
                    split
                    · exact HE.out.2.2.2.2 z hz
                    · exact HE.out.2.2.2.2 z hz)
                go_wp2_with (go_at_call 20; (with_reducible refine (z_many HZ4.out n2 (HE2.out.2.2.1)).mono ?_); rintro e w9 ⟨rfl, hb⟩; have HZ9 := Lib.hid (HZ4.out.on hb); have HS9 := Lib.hid (HS5.out.on hb); clear hb)
                go_roundw
                case rel => exact ⟨i + 1, m, n2, E.map (offO ov), H4, A1, c1, A2, c2, A3, c3, by omega, rfl, rfl, rfl, by first | rfl | go_num, by go_num, HZ9, HS9, HE2⟩
                case measure => simp [intOf] <;> omega
          · have h3b : (ow == 3) = false := by simp [h3]
            rcases iss_cases ⟨(m : Int), goodL E⟩ ⟨ov, on, ot, oe⟩ (tixT key od) with ⟨_, hp⟩ | ⟨_, _, hp⟩ | ⟨hnew, hlt, hp⟩
            · have HT := Lib.hid hp
              clear hp
              go_upto_region 38 with (go_at_call 18; (with_reducible refine (z_issue HZv.out HE.out.2.2.2.1 ⟨ov, on, ot, oe⟩ od ⟨#[]⟩ 4 _ HT.out HK3.out (Nat.le_trans HOD.out.1 (by decide)) (by show (m : Int) ≤ _; omega) HON.out.1 HON.out.2 HG.out).mono ?_); rintro e u3 ⟨H4, rfl, h1, h2⟩; have HZ3 := Lib.hid h1; have HS3 := Lib.hid (HSv.out.step h2); have HB3 := Lib.hid (HB.out.step h2); clear h1 h2)
              clear e0 e1 e2 e3 e4 e5 e6 e7 e8
              have HE2 := Lib.hid (show E.length = m ∧ m ≤ i + 1 ∧ (goodL E).length = nn ∧ Gk ⟨(m : Int), goodL E⟩ ∧ ∀ e ∈ E, e.tx.size ≤ 1099511627776 from ⟨HE.out.1, by omega, HE.out.2.2⟩)
              go_wp2_with (go_at_call 20; (with_reducible refine (z_many HZ3.out nn (HE2.out.2.2.1)).mono ?_); rintro e w9 ⟨rfl, hb⟩; have HZ9 := Lib.hid (HZ3.out.on hb); have HS9 := Lib.hid (HS3.out.on hb); clear hb)
              go_roundw
              case rel => exact ⟨i + 1, m, nn, E, H4, A1, c1, A2, c2, A3, c3, by omega, rfl, rfl, rfl, by first | rfl | go_num, by go_num, HZ9, HS9, HE2⟩
              case measure => simp [intOf] <;> omega
            · have HT := Lib.hid hp
              clear hp
              go_upto_region 38 with (go_at_call 18; (with_reducible refine (z_issue HZv.out HE.out.2.2.2.1 ⟨ov, on, ot, oe⟩ od ⟨#[]⟩ 2 _ HT.out HK3.out (Nat.le_trans HOD.out.1 (by decide)) (by show (m : Int) ≤ _; omega) HON.out.1 HON.out.2 HG.out).mono ?_); rintro e u3 ⟨H4, rfl, h1, h2⟩; have HZ3 := Lib.hid h1; have HS3 := Lib.hid (HSv.out.step h2); have HB3 := Lib.hid (HB.out.step h2); clear h1 h2)
              clear e0 e1 e2 e3 e4 e5 e6 e7 e8
              have HE2 := Lib.hid (show E.length = m ∧ m ≤ i + 1 ∧ (goodL E).length = nn ∧ Gk ⟨(m : Int), goodL E⟩ ∧ ∀ e ∈ E, e.tx.size ≤ 1099511627776 from ⟨HE.out.1, by omega, HE.out.2.2⟩)
              go_wp2_with (go_at_call 20; (with_reducible refine (z_many HZ3.out nn (HE2.out.2.2.1)).mono ?_); rintro e w9 ⟨rfl, hb⟩; have HZ9 := Lib.hid (HZ3.out.on hb); have HS9 := Lib.hid (HS3.out.on hb); clear hb)
              go_roundw
              case rel => exact ⟨i + 1, m, nn, E, H4, A1, c1, A2, c2, A3, c3, by omega, rfl, rfl, rfl, by first | rfl | go_num, by go_num, HZ9, HS9, HE2⟩
              case measure => simp [intOf] <;> omega
            · obtain ⟨T, hT⟩ : ∃ T, tixT key od ((m : Int) + 1) = T := ⟨_, rfl⟩
              have HT := Lib.hid (show issT ⟨(m : Int), goodL E⟩ ⟨ov, on, ot, oe⟩ (tixT key od) = (T, 0, ⟨((m + 1 : Nat) : Int), goodL E ++ [⟨T, ⟨ov, on, ot, oe⟩⟩]⟩) by rw [← hT]; exact hp)
              have HTZ := Lib.hid (show T.size ≤ 1099511627776 by rw [← hT, tix_size key od ((m : Int) + 1) (by omega)]; decide)
              clear hp hT hnew hlt
              go_upto_region 38 with (go_at_call 18; (with_reducible refine (z_issue HZv.out HE.out.2.2.2.1 ⟨ov, on, ot, oe⟩ od T 0 _ HT.out HK3.out (Nat.le_trans HOD.out.1 (by decide)) (by show (m : Int) ≤ _; omega) HON.out.1 HON.out.2 HG.out).mono ?_); rintro e u3 ⟨H4, rfl, h1, h2⟩; have HZ3 := Lib.hid h1; have HS3 := Lib.hid (HSv.out.step h2); have HB3 := Lib.hid (HB.out.step h2); clear h1 h2)
              clear e0 e1 e2 e3 e4 e5 e6 e7 e8
              go_upto_region 39 with fail
              have HLN := Lib.hid (show (E.map (·.tx)).length = m by rw [List.length_map]; exact HE.out.1)
              have HOA := Lib.hid (HS3.out.r1.o.on ((Below.refl u3.heap.size u3).alloc (Nat.le_refl _) (.cells #[.string T] 9)))
              have HRX := Lib.hid (Rw.bk (f := tsv) (k := 1) (x := T) (Bk.new u3 9 #[.string T]))
              have HSA := Lib.hid (show W.heap.size ≤ (u3.alloc (.cells #[.string T] 9)).heap.size by have := HZ3.out.l.size; rw [World.size_alloc]; omega)
              go_upto_region 40 with (at_builtin; refine wp_rows_at roTS rfl (.tmp 177) (.tmp 179) rfl m rfl HLN.out HOA.out (T) u3.heap.size 1 rfl HRX.out (by omega) HSA.out (m + 1) rfl ?_; intro g5 d5 w5 ho hg hb hat; have HY := Lib.hid (Lrk.app HS3.out.r1 HZ3.out.hi HLN.out ho hg hat); clear ho hg hb hat)
              have HZ5 := Lib.hid (HY.out.2.tz HZ3.out (fun y hy => hy))
              have HX5 := Lib.hid HY.out.1
              have HP5 := Lib.hid (HY.out.2.lr HS3.out.r2 (by decide))
              have HQ5 := Lib.hid (HY.out.2.lr HS3.out.r3 (by decide))
              have HB5 := Lib.hid (HY.out.2.bz HB3.out (by decide))
              clear HY HOA HRX HSA HLN
              have e0 : w5.cell? ⟨kb, 0, none⟩ = some (.int .i64 ow) := HB5.out.b.cell 0
              have e1 : w5.cell? ⟨kb, 1, none⟩ = some (.int .i64 ov) := HB5.out.b.cell 1
              have e2 : w5.cell? ⟨kb, 2, none⟩ = some (.string on) := HB5.out.b.cell 2
              have e3 : w5.cell? ⟨kb, 3, none⟩ = some (.string ot) := HB5.out.b.cell 3
              have e4 : w5.cell? ⟨kb, 4, none⟩ = some (.int .i64 oe) := HB5.out.b.cell 4
              have e5 : w5.cell? ⟨kb, 5, none⟩ = some (.string od) := HB5.out.b.cell 5
              have e6 : w5.cell? ⟨kb, 6, none⟩ = some (.int .i64 oa) := HB5.out.b.cell 6
              have e7 : w5.cell? ⟨kb, 7, none⟩ = some (.string ox) := HB5.out.b.cell 7
              have e8 : w5.cell? ⟨kb, 8, none⟩ = some (.string og) := HB5.out.b.cell 8
              have HLN := Lib.hid (show (E.map (·.p)).length = m by rw [List.length_map]; exact HE.out.1)
              have HOA := Lib.hid (HP5.out.o.on ((Below.refl w5.heap.size w5).alloc (Nat.le_refl _) (.cells #[.int .i64 ov, .string on, .string ot, .int .i64 oe] 31)))
              have HRX := Lib.hid (Rw.bk (f := pcs) (k := 4) (x := (⟨ov, on, ot, oe⟩ : Ps)) (Bk.new w5 31 #[.int .i64 ov, .string on, .string ot, .int .i64 oe]))
              have HSA := Lib.hid (show W.heap.size ≤ (w5.alloc (.cells #[.int .i64 ov, .string on, .string ot, .int .i64 oe] 31)).heap.size by have := HZ5.out.l.size; rw [World.size_alloc]; omega)
              go_upto_region 41 with (at_builtin; refine wp_rows_at roTP rfl (.tmp 181) (.tmp 184) rfl m rfl HLN.out HOA.out ((⟨ov, on, ot, oe⟩ : Ps)) w5.heap.size 1 rfl HRX.out (by omega) HSA.out (m + 1) rfl ?_; intro g6 d6 w6 ho hg hb hat; have HY := Lib.hid (Lrk.app HP5.out HZ5.out.hi HLN.out ho hg hat); clear ho hg hb hat)
              clear e0 e1 e2 e3 e4 e5 e6 e7 e8
              have HZ6 := Lib.hid (HY.out.2.tz HZ5.out (fun y hy => hy))
              have HP6 := Lib.hid HY.out.1
              have HX6 := Lib.hid (HY.out.2.lr HX5.out (by decide))
              have HQ6 := Lib.hid (HY.out.2.lr HQ5.out (by decide))
              clear HY HOA HRX HSA HLN
              have HLN := Lib.hid (show (E.map (·.ok)).length = m by rw [List.length_map]; exact HE.out.1)
              have HOA := Lib.hid (HQ6.out.o.on ((Below.refl w6.heap.size w6).alloc (Nat.le_refl _) (.cells #[.bool true] 4)))
              have HRX := Lib.hid (Rw.bk (f := tbv) (k := 1) (x := true) (Bk.new w6 4 #[.bool true]))
              have HSA := Lib.hid (show W.heap.size ≤ (w6.alloc (.cells #[.bool true] 4)).heap.size by have := HZ6.out.l.size; rw [World.size_alloc]; omega)
              go_upto_region 42 with (at_builtin; refine wp_rows_at roTB rfl (.tmp 186) (.tmp 187) rfl m rfl HLN.out HOA.out (true) w6.heap.size 1 rfl HRX.out (by omega) HSA.out (m + 1) rfl ?_; intro g7 d7 w7 ho hg hb hat; have HY := Lib.hid (Lrk.app HQ6.out HZ6.out.hi HLN.out ho hg hat); clear ho hg hb hat)
              have HZ7 := Lib.hid (HY.out.2.tz HZ6.out (fun y hy => hy))
              have HQ7 := Lib.hid HY.out.1
              have HX7 := Lib.hid (HY.out.2.lr HX6.out (by decide))
              have HP7 := Lib.hid (HY.out.2.lr HP6.out (by decide))
              clear HY HOA HRX HSA HLN
              obtain ⟨E2, hE2⟩ : ∃ E2, E ++ [(⟨T, ⟨ov, on, ot, oe⟩, true⟩ : On5)] = E2 := ⟨_, rfl⟩
              obtain ⟨m2, hm2⟩ : ∃ m2, m + 1 = m2 := ⟨_, rfl⟩
              have hgl : goodL E2 = goodL E ++ [⟨T, ⟨ov, on, ot, oe⟩⟩] := by rw [← hE2, goodL_app]; rfl
              have HZ8 := Lib.hid (show Tz W w7 H4 tb key ⟨(m2 : Int), goodL E2⟩ by rw [hgl, ← hm2]; exact HZ7.out)
              have HS8 := Lib.hid (show So5 W w7 H4 tb key (m2 : Int) E2 (some ⟨g5, 0, none⟩) d5 (some ⟨g6, 0, none⟩) d6 (some ⟨g7, 0, none⟩) d7 by rw [← hE2]; exact ⟨by rw [List.map_append]; exact HX7.out, by rw [List.map_append]; exact HP7.out, by rw [List.map_append]; exact HQ7.out⟩)
              have hwn : IntKind.i64.wrap ((nn : Int) + 1) = ((nn + 1 : Nat) : Int) := (iwrap _ (nn + 1) (by omega) (by omega)).1
              obtain ⟨n1, hn1⟩ : ∃ n1, nn + 1 = n1 := ⟨_, rfl⟩
              rw [hn1] at hwn
              have HE2 := Lib.hid (show E2.length = m2 ∧ m2 ≤ i + 1 ∧ (goodL E2).length = n1 ∧ Gk ⟨(m2 : Int), goodL E2⟩ ∧ ∀ e ∈ E2, e.tx.size ≤ 1099511627776 from by
                refine ⟨by rw [← hE2, List.length_append, HE.out.1]; exact hm2, by omega, by rw [hgl, List.length_append, HE.out.2.2.1]; exact hn1, ?_, fun y hy => ?_⟩
                · have := gk_iss HE.out.2.2.2.1 ⟨ov, on, ot, oe⟩ (tixT key od)
                  rw [HT.out] at this
                  rw [hgl, ← hm2]
                  exact this
                · rw [← hE2] at hy
                  rcases List.mem_append.1 hy with hy | hy
                  · exact HE.out.2.2.2.2 y hy
                  · rw [List.mem_singleton.1 hy]; exact HTZ.out)
              try rw [hm2]
              clear hE2 hm2 hgl hn1
              go_wp2_with (go_at_call 20; (with_reducible refine (z_many HZ8.out n1 (HE2.out.2.2.1)).mono ?_); rintro e w9 ⟨rfl, hb⟩; have HZ9 := Lib.hid (HZ8.out.on hb); have HS9 := Lib.hid (HS8.out.on hb); clear hb)
              go_roundw
              case rel => exact ⟨i + 1, m2, n1, E2, H4, some ⟨g5, 0, none⟩, d5, some ⟨g6, 0, none⟩, d6, some ⟨g7, 0, none⟩, d7, by omega, rfl, rfl, rfl, by first | rfl | go_num, by go_num, HZ9, HS9, HE2⟩
              case measure => simp [intOf] <;> omega
      · have hi2 : ¬ (i : Int) < (n : Int) := by omega
        go_wp2_with fail
        go_ret
        exact ⟨rfl, HZ.out.l⟩
end Go.Proofs.YtinbegnojfpeiaaDoor
