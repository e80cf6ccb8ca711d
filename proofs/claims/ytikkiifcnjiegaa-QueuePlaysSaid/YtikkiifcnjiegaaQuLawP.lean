/- QueuePlays: calls of a queue answer as the document says: the walk. (Written by gen_qupl.py.) -/
import Derived.Test.YtikkiifcnjiegaaG12
namespace Go.Proofs.Ytikkiifcnjiegaa
set_option linter.unusedVariables false
set_option maxRecDepth 100000
set_option linter.unusedSimpArgs false
open Go.RowKit

set_option maxRecDepth 100000 in
set_option maxHeartbeats 16000000 in
theorem walk_QueuePlays (A : Option Addr) (l : List Qo) (c : Nat) (W : World) (h : InQo W A l c) :
    Calls Try.prog 3 #[.slice A l.length c] W fun e w' => e = .returned (.bool true) ∧ Below W.heap.size W w' := by
  have HI := Lib.hid h
  have HHD := Lib.hid (fun u => qhead_ok u)
  have HNEW := Lib.hid (fun u (hb : Below W.heap.size W u) => w_qnew (W := W) (u := u) hb)
  have HGR := Lib.hid (fun u (hb : Below W.heap.size W u) => qgreat_ok A l c u (h.on hb))
  obtain ⟨gr, hgr⟩ : ∃ gr, grQ l = gr := ⟨_, rfl⟩
  have HGB := Lib.hid hgr
  simp only [hgr] at HGR
  obtain ⟨n, hn⟩ : ∃ n, l.length = n := ⟨_, rfl⟩
  have HN := Lib.hid hn
  rw [hn] at HGR ⊢
  clear h hgr hn
  have HDN := Lib.hid (fun u (hb : Below W.heap.size W u) => d_new (W := W) (u := u) hb)
  cases gr with
  | true =>
    go_enter Try.func3, Try.ntmps3
    go_wp2_with (first | (go_at_call 9; (with_reducible refine (HHD.out _).mono ?_); rintro e u1 ⟨rfl, hb⟩; have HB1 := Lib.hid hb; clear hb) | (go_at_call 10; (with_reducible refine (HNEW.out _ HB1.out).mono ?_); rintro e u2 ⟨G, qb, rfl, h1, -, -⟩; have HL2 := Lib.hid h1; clear h1) | (go_at_call 11; (with_reducible refine (HDN.out _ HL2.out.l).mono ?_); rintro e v2 ⟨H, db, rfl, h1, h2, h3⟩; have HP2 := Lib.hid (show WD W v2 G qb [] H db [] from ⟨HL2.out.on h2, h1, fun y hy hH => by have := HL2.out.hi y hy; have := h3 y hH; omega⟩); clear h1 h2 h3) | (go_at_call 12; (with_reducible refine (HGR.out _ HP2.out.l.l).mono ?_); rintro e u3 ⟨rfl, hb⟩; have HP3 := Lib.hid (HP2.out.on hb); clear hb))
    go_ret
    exact ⟨rfl, HP3.out.l.l⟩
  | false =>
    have hfew : n ≤ 400 := by rw [← HN.out]; exact grQ_few HGB.out
    go_enter Try.func3, Try.ntmps3
    go_wp2_with (first | (go_at_call 9; (with_reducible refine (HHD.out _).mono ?_); rintro e u1 ⟨rfl, hb⟩; have HB1 := Lib.hid hb; clear hb) | (go_at_call 10; (with_reducible refine (HNEW.out _ HB1.out).mono ?_); rintro e u2 ⟨G, qb, rfl, h1, -, -⟩; have HL2 := Lib.hid h1; clear h1) | (go_at_call 11; (with_reducible refine (HDN.out _ HL2.out.l).mono ?_); rintro e v2 ⟨H, db, rfl, h1, h2, h3⟩; have HP2 := Lib.hid (show WD W v2 G qb [] H db [] from ⟨HL2.out.on h2, h1, fun y hy hH => by have := HL2.out.hi y hy; have := h3 y hH; omega⟩); clear h1 h2 h3) | (go_at_call 12; (with_reducible refine (HGR.out _ HP2.out.l.l).mono ?_); rintro e u3 ⟨rfl, hb⟩; have HP3 := Lib.hid (HP2.out.on hb); clear hb))
    go_loopw [6] (fun v6 wr => ∃ (i : Nat) (G H : List Nat) (q : List Qn), i ≤ n ∧ v6 = .int .i64 (i : Int) ∧ Hid (WD W wr G qb q H db q)) (fun v6 _ => n - (intOf v6).toNat)
    case atStart => exact ⟨0, G, H, [], by omega, rfl, HP3⟩
    case round =>
      obtain ⟨i, G1, H1, q, hi, rfl, HW⟩ := hrel
      by_cases hi1 : i < n
      · have hi2 : (i : Int) < (n : Int) := by omega
        obtain ⟨bx, o, ox, rfl, hx, hsm, hc⟩ := HI.out.at3 i (by rw [HN.out]; exact hi1)
        have HC := Lib.hid hc
        obtain ⟨ow, on, oi⟩ := ox
        have HSZ := Lib.hid (show on.size ≤ 140737488355328 from hsm.1)
        have HWF := Lib.hid (show WfI oi from hsm.2)
        clear hx hsm hc
        dsimp only at HC
        obtain ⟨d0, d1, d2⟩ := HC.out wr (HW.out.l.l)
        go_upto_region 10 with fail
        obtain ⟨kb, hkb⟩ : ∃ kb, wr.heap.size = kb := ⟨_, rfl⟩
        obtain ⟨v, hv⟩ : ∃ v, wr.alloc (.cells #[.int .i64 ow, .string on, .int .i64 oi] 30) = v := ⟨_, rfl⟩
        have HB := Lib.hid (show Bz v (G1 ++ H1) kb 30 #[.int .i64 ow, .string on, .int .i64 oi] by rw [← hv, ← hkb]; exact Bz.new HW.out.hi _ _)
        have HWv := Lib.hid (show WD W v G1 qb q H1 db q by rw [← hv]; exact HW.out.on ((Below.refl _ _).alloc (Nat.le_refl _) _))
        try dsimp only
        rw [hv]
        try rw [hkb]
        clear hv hkb d0 d1 d2
        have e0 : v.cell? ⟨kb, 0, none⟩ = some (.int .i64 ow) := HB.out.b.cell 0
        have e1 : v.cell? ⟨kb, 1, none⟩ = some (.string on) := HB.out.b.cell 1
        have e2 : v.cell? ⟨kb, 2, none⟩ = some (.int .i64 oi) := HB.out.b.cell 2
        have HF := Lib.hid (HWv.out.l.ok.few)
        by_cases h3 : ow = 3
        · have h3b : (ow == 3) = true := by simp [h3]
          as_aux_lemma =>
            obtain ⟨⟨a, is, q2⟩, hR⟩ : ∃ R, tkQ q on = R := ⟨_, rfl⟩
            have HR := Lib.hid hR
            have hne : (a != a) = false := by simp
            have hni : (is != is) = false := by simp
            clear hR
            go_upto_region 17 with (go_at_call 13; (with_reducible refine (w_qtake HWv.out.l on HSZ.out a is q2 HR.out).mono ?_); rintro e u5 ⟨rfl, h1, h2⟩; have HW5 := Lib.hid (HWv.out.left h2 h1); have HB5 := Lib.hid (HB.out.step (h2.left H1)); clear h1 h2)
            clear e0 e1 e2
            have e0 : u5.cell? ⟨kb, 0, none⟩ = some (.int .i64 ow) := HB5.out.b.cell 0
            have e1 : u5.cell? ⟨kb, 1, none⟩ = some (.string on) := HB5.out.b.cell 1
            have e2 : u5.cell? ⟨kb, 2, none⟩ = some (.int .i64 oi) := HB5.out.b.cell 2
            go_upto_region 25 with (go_at_call 14; (with_reducible refine (d_take HW5.out.r on a is q2 HR.out HF.out).mono ?_); rintro e u6 ⟨H6, rfl, h1, h2⟩; have HW6 := Lib.hid (HW5.out.right h2 h1); have HB6 := Lib.hid (HB5.out.step (h2.right G1)); clear h1 h2)
            clear e0 e1 e2
            have e0 : u6.cell? ⟨kb, 0, none⟩ = some (.int .i64 ow) := HB6.out.b.cell 0
            have e1 : u6.cell? ⟨kb, 1, none⟩ = some (.string on) := HB6.out.b.cell 1
            have e2 : u6.cell? ⟨kb, 2, none⟩ = some (.int .i64 oi) := HB6.out.b.cell 2
            obtain ⟨wn, hwn⟩ : ∃ wn, whN q2 oi = wn := ⟨_, rfl⟩
            obtain ⟨wi, hwi⟩ : ∃ wi, (whQ q2 oi).isSome = wi := ⟨_, rfl⟩
            obtain ⟨L, hL⟩ : ∃ L, liQ q2 on = L := ⟨_, rfl⟩
            obtain ⟨m, hm⟩ : ∃ m, L.length = m := ⟨_, rfl⟩
            obtain ⟨M, hM⟩ : ∃ M, q2.length = M := ⟨_, rfl⟩
            have HWN := Lib.hid (And.intro hwn hwi)
            have HLQ := Lib.hid (And.intro hL hm)
            have HMQ := Lib.hid hM
            have HF2 := Lib.hid (HW6.out.l.ok.few)
            have hm64 : m ≤ 64 := by rw [← hm, ← hL]; exact Nat.le_trans (li_le q2 on) HW6.out.l.ok.few
            obtain ⟨A6, c6, hbk, _, _⟩ := HW6.out.r.ex
            rw [hM] at hbk
            have HBK := Lib.hid hbk
            have hwne : (wn.toList != wn.toList) = false := by simp
            have hwie : (wi != wi) = false := by simp
            have hMM : ((M : Int) != (M : Int)) = false := by simp
            clear hwn hwi hL hm hM hbk
            go_upto_region 26 with (go_at_call 19; (with_reducible refine (w_qwhere HW6.out.l oi HWF.out wn wi HWN.out).mono ?_); rintro e ux ⟨rfl, hu⟩; rw [hu]; clear hu)
            go_upto_region 27 with (go_at_call 20; (with_reducible refine (d_where HW6.out.r oi wn wi HWN.out HF2.out).mono ?_); rintro e ux ⟨rfl, hu⟩; rw [hu]; clear hu)
            clear e0 e1 e2
            try simp only [List.cons_append, List.nil_append]
            refine wp_region_held_drew (S := fun wz => Below u6.heap.size u6 wz) (by kernel_rfl) ((Below.refl _ _).drew) (fun hHeld => ?_)
            refine take_at (some 112) (i := 0) (v := ?_) rfl rfl (by kernel_rfl) (by kernel_rfl) (by kernel_rfl) (fun _ _ _ h => h) (Or.inl ⟨by kernel_rfl, ?_⟩) hHeld ?_
            rotate_left
            · intro wz hSw; go_simp; try (with_reducible rfl)
            try simp only [Act.put, List.setIfInBounds_toArray, List.set_cons_zero, List.set_cons_succ, List.getElem_toArray, List.getElem_cons_succ, List.getElem_cons_zero]
            refine take_at (some 113) (i := 1) (v := ?_) rfl rfl (by kernel_rfl) (by kernel_rfl) (by kernel_rfl) (fun _ _ _ h => h) (Or.inl ⟨by kernel_rfl, ?_⟩) hHeld ?_
            rotate_left
            · intro wz hSw; go_simp; try (with_reducible rfl)
            try simp only [Act.put, List.setIfInBounds_toArray, List.set_cons_zero, List.set_cons_succ, List.getElem_toArray, List.getElem_cons_succ, List.getElem_cons_zero]
            refine take_at (some 114) (i := 2) (v := ?_) rfl rfl (by kernel_rfl) (by kernel_rfl) (by kernel_rfl) (fun _ _ _ h => h) (Or.inl ⟨by kernel_rfl, ?_⟩) hHeld ?_
            rotate_left
            · intro wz hSw; go_simp; try (with_reducible rfl)
            try simp only [Act.put, List.setIfInBounds_toArray, List.set_cons_zero, List.set_cons_succ, List.getElem_toArray, List.getElem_cons_succ, List.getElem_cons_zero]
            refine take_at (some 115) (i := 3) (v := ?_) rfl rfl (by kernel_rfl) (by kernel_rfl) (by kernel_rfl) (fun _ _ _ h => h) (Or.inl ⟨by kernel_rfl, ?_⟩) hHeld ?_
            rotate_left
            · intro wz hSw; go_simp; try (with_reducible rfl)
            try simp only [Act.put, List.setIfInBounds_toArray, List.set_cons_zero, List.set_cons_succ, List.getElem_toArray, List.getElem_cons_succ, List.getElem_cons_zero]
            refine take_at (some 116) (i := 4) (v := ?_) rfl rfl (by kernel_rfl) (by kernel_rfl) (by kernel_rfl) (fun _ _ _ h => h) (Or.inl ⟨by kernel_rfl, ?_⟩) hHeld ?_
            rotate_left
            · intro wz hSw; go_simp; try (with_reducible rfl)
            try simp only [Act.put, List.setIfInBounds_toArray, List.set_cons_zero, List.set_cons_succ, List.getElem_toArray, List.getElem_cons_succ, List.getElem_cons_zero]
            refine take_at (some 117) (i := 5) (v := ?_) rfl rfl (by kernel_rfl) (by kernel_rfl) (by kernel_rfl) (fun _ _ _ h => h) (Or.inl ⟨by kernel_rfl, ?_⟩) hHeld ?_
            rotate_left
            · intro wz hSw; go_simp; try (with_reducible rfl)
            try simp only [Act.put, List.setIfInBounds_toArray, List.set_cons_zero, List.set_cons_succ, List.getElem_toArray, List.getElem_cons_succ, List.getElem_cons_zero]
            refine take_at (some 118) (i := 6) (v := ?_) rfl rfl (by kernel_rfl) (by kernel_rfl) (by kernel_rfl) (fun _ _ _ h => h) (Or.inl ⟨by kernel_rfl, ?_⟩) hHeld ?_
            rotate_left
            · intro wz hSw; go_simp; try (with_reducible rfl)
            try simp only [Act.put, List.setIfInBounds_toArray, List.set_cons_zero, List.set_cons_succ, List.getElem_toArray, List.getElem_cons_succ, List.getElem_cons_zero]
            refine take_at (some 119) (i := 7) (v := ?_) rfl rfl (by kernel_rfl) (by kernel_rfl) (by kernel_rfl) (fun _ _ _ h => h) (Or.inl ⟨by kernel_rfl, ?_⟩) hHeld ?_
            rotate_left
            · intro wz hSw; go_simp; try (with_reducible rfl)
            try simp only [Act.put, List.setIfInBounds_toArray, List.set_cons_zero, List.set_cons_succ, List.getElem_toArray, List.getElem_cons_succ, List.getElem_cons_zero]
            refine take_at (some 120) (i := 8) (v := ?_) rfl rfl (by kernel_rfl) (by kernel_rfl) (by kernel_rfl) (fun _ _ _ h => h) (Or.inl ⟨by kernel_rfl, ?_⟩) hHeld ?_
            rotate_left
            · intro wz hSw; go_simp; try (with_reducible rfl)
            try simp only [Act.put, List.setIfInBounds_toArray, List.set_cons_zero, List.set_cons_succ, List.getElem_toArray, List.getElem_cons_succ, List.getElem_cons_zero]
            refine take_at (some 121) (i := 9) (v := ?_) rfl rfl (by kernel_rfl) (by kernel_rfl) (by kernel_rfl) (fun _ _ _ h => h) (Or.inl ⟨by kernel_rfl, ?_⟩) hHeld ?_
            rotate_left
            · intro wz hSw; go_simp; try (with_reducible rfl)
            try simp only [Act.put, List.setIfInBounds_toArray, List.set_cons_zero, List.set_cons_succ, List.getElem_toArray, List.getElem_cons_succ, List.getElem_cons_zero]
            refine take_at (some 123) (i := 11) (v := ?_) rfl rfl (by kernel_rfl) (by kernel_rfl) (by kernel_rfl) (fun _ _ _ h => h) (Or.inl ⟨by kernel_rfl, ?_⟩) hHeld ?_
            rotate_left
            · intro wz hSw; go_simp; try (with_reducible rfl)
            try simp only [Act.put, List.setIfInBounds_toArray, List.set_cons_zero, List.set_cons_succ, List.getElem_toArray, List.getElem_cons_succ, List.getElem_cons_zero]
            refine take_at (some 124) (i := 12) (v := ?_) rfl rfl (by kernel_rfl) (by kernel_rfl) (by kernel_rfl) (fun _ _ _ h => h) (Or.inl ⟨by kernel_rfl, ?_⟩) hHeld ?_
            rotate_left
            · intro wz hSw; go_simp; try (with_reducible rfl)
            try simp only [Act.put, List.setIfInBounds_toArray, List.set_cons_zero, List.set_cons_succ, List.getElem_toArray, List.getElem_cons_succ, List.getElem_cons_zero]
            refine take_at (some 125) (i := 13) (v := ?_) rfl rfl (by kernel_rfl) (by kernel_rfl) (by kernel_rfl) (fun _ _ _ h => h) (Or.inl ⟨by kernel_rfl, ?_⟩) hHeld ?_
            rotate_left
            · intro wz hSw; go_simp; try (with_reducible rfl)
            try simp only [Act.put, List.setIfInBounds_toArray, List.set_cons_zero, List.set_cons_succ, List.getElem_toArray, List.getElem_cons_succ, List.getElem_cons_zero]
            refine take_at (some 126) (i := 14) (v := ?_) rfl rfl (by kernel_rfl) (by kernel_rfl) (by kernel_rfl) (fun _ _ _ h => h) (Or.inl ⟨by kernel_rfl, ?_⟩) hHeld ?_
            rotate_left
            · intro wz hSw; have e0 : wz.cell? ⟨db, 0, none⟩ = some (.slice A6 M c6) := (HBK.out.below hSw HBK.out.lt).cell 0; go_simp; try (with_reducible rfl)
            try simp only [Act.put, List.setIfInBounds_toArray, List.set_cons_zero, List.set_cons_succ, List.getElem_toArray, List.getElem_cons_succ, List.getElem_cons_zero]
            refine take_at (some 127) (i := 15) (v := ?_) rfl rfl (by kernel_rfl) (by kernel_rfl) (by kernel_rfl) (fun _ _ _ h => h) (Or.inl ⟨by kernel_rfl, ?_⟩) hHeld ?_
            rotate_left
            · intro wz hSw; go_simp; try (with_reducible rfl)
            try simp only [Act.put, List.setIfInBounds_toArray, List.set_cons_zero, List.set_cons_succ, List.getElem_toArray, List.getElem_cons_succ, List.getElem_cons_zero]
            refine wpAnyH_ready (rs := [10]) (by kernel_rfl) (by simp) (AllReadyH.cons rfl (fun K hK => ?_) AllReadyH.nil)
            rw [if_pos (by kernel_rfl)]
            go_simp
            refine (w_qmany (HW6.out.l.on ((Below.refl u6.heap.size u6).drew)) M HMQ.out).mono ?_
            rintro e y1 ⟨rfl, hb1⟩
            try dsimp only
            refine hK.out _ _ (((Below.refl u6.heap.size u6).drew).trans (hb1.mono ((Below.refl u6.heap.size u6).drew).size)) (fun hHeld => ?_)
            try simp only [Act.put, List.setIfInBounds_toArray, List.set_cons_zero, List.set_cons_succ, List.getElem_toArray, List.getElem_cons_succ, List.getElem_cons_zero]
            refine take_at (some 128) (i := 16) (v := ?_) rfl rfl (by kernel_rfl) (by kernel_rfl) (by kernel_rfl) (fun _ _ _ h => h) (Or.inl ⟨by kernel_rfl, ?_⟩) hHeld ?_
            rotate_left
            · intro wz hSw; go_simp; try (with_reducible rfl)
            try simp only [Act.put, List.setIfInBounds_toArray, List.set_cons_zero, List.set_cons_succ, List.getElem_toArray, List.getElem_cons_succ, List.getElem_cons_zero]
            refine take_at (some 129) (i := 17) (v := ?_) rfl rfl (by kernel_rfl) (by kernel_rfl) (by kernel_rfl) (fun _ _ _ h => h) (Or.inl ⟨by kernel_rfl, ?_⟩) hHeld ?_
            rotate_left
            · intro wz hSw; go_simp; try (with_reducible rfl)
            try simp only [Act.put, List.setIfInBounds_toArray, List.set_cons_zero, List.set_cons_succ, List.getElem_toArray, List.getElem_cons_succ, List.getElem_cons_zero]
            refine take_at (some 130) (i := 18) (v := ?_) rfl rfl (by kernel_rfl) (by kernel_rfl) (by kernel_rfl) (fun _ _ _ h => h) (Or.inl ⟨by kernel_rfl, ?_⟩) hHeld ?_
            rotate_left
            · intro wz hSw; go_simp; try (with_reducible rfl)
            try simp only [Act.put, List.setIfInBounds_toArray, List.set_cons_zero, List.set_cons_succ, List.getElem_toArray, List.getElem_cons_succ, List.getElem_cons_zero]
            refine take_at (some 131) (i := 19) (v := ?_) rfl rfl (by kernel_rfl) (by kernel_rfl) (by kernel_rfl) (fun _ _ _ h => h) (Or.inl ⟨by kernel_rfl, ?_⟩) hHeld ?_
            rotate_left
            · intro wz hSw; go_simp; try (with_reducible rfl)
            try simp only [Act.put, List.setIfInBounds_toArray, List.set_cons_zero, List.set_cons_succ, List.getElem_toArray, List.getElem_cons_succ, List.getElem_cons_zero]
            refine take_at (some 132) (i := 20) (v := ?_) rfl rfl (by kernel_rfl) (by kernel_rfl) (by kernel_rfl) (fun _ _ _ h => h) (Or.inl ⟨by kernel_rfl, ?_⟩) hHeld ?_
            rotate_left
            · intro wz hSw; go_simp; try (with_reducible rfl)
            try simp only [Act.put, List.setIfInBounds_toArray, List.set_cons_zero, List.set_cons_succ, List.getElem_toArray, List.getElem_cons_succ, List.getElem_cons_zero]
            refine take_at (some 133) (i := 21) (v := ?_) rfl rfl (by kernel_rfl) (by kernel_rfl) (by kernel_rfl) (fun _ _ _ h => h) (Or.inl ⟨by kernel_rfl, ?_⟩) hHeld ?_
            rotate_left
            · intro wz hSw; have e1 : wz.cell? ⟨kb, 1, none⟩ = some (.string on) := (HB6.out.b.below hSw HB6.out.b.lt).cell 1; go_simp; try (with_reducible rfl)
            try simp only [Act.put, List.setIfInBounds_toArray, List.set_cons_zero, List.set_cons_succ, List.getElem_toArray, List.getElem_cons_succ, List.getElem_cons_zero]
            refine take_at (some 135) (i := 23) (v := ?_) rfl rfl (by kernel_rfl) (by kernel_rfl) (by kernel_rfl) (fun _ _ _ h => h) (Or.inl ⟨by kernel_rfl, ?_⟩) hHeld ?_
            rotate_left
            · intro wz hSw; go_simp; try (with_reducible rfl)
            try simp only [Act.put, List.setIfInBounds_toArray, List.set_cons_zero, List.set_cons_succ, List.getElem_toArray, List.getElem_cons_succ, List.getElem_cons_zero]
            refine take_at (some 136) (i := 24) (v := ?_) rfl rfl (by kernel_rfl) (by kernel_rfl) (by kernel_rfl) (fun _ _ _ h => h) (Or.inl ⟨by kernel_rfl, ?_⟩) hHeld ?_
            rotate_left
            · intro wz hSw; go_simp; try (with_reducible rfl)
            try simp only [Act.put, List.setIfInBounds_toArray, List.set_cons_zero, List.set_cons_succ, List.getElem_toArray, List.getElem_cons_succ, List.getElem_cons_zero]
            refine take_at (some 137) (i := 25) (v := ?_) rfl rfl (by kernel_rfl) (by kernel_rfl) (by kernel_rfl) (fun _ _ _ h => h) (Or.inl ⟨by kernel_rfl, ?_⟩) hHeld ?_
            rotate_left
            · intro wz hSw; have e1 : wz.cell? ⟨kb, 1, none⟩ = some (.string on) := (HB6.out.b.below hSw HB6.out.b.lt).cell 1; go_simp; try (with_reducible rfl)
            try simp only [Act.put, List.setIfInBounds_toArray, List.set_cons_zero, List.set_cons_succ, List.getElem_toArray, List.getElem_cons_succ, List.getElem_cons_zero]
            refine wpAnyH_ready (rs := [22]) (by kernel_rfl) (by simp) (AllReadyH.cons rfl (fun K hK => ?_) AllReadyH.nil)
            rw [if_pos (by kernel_rfl)]
            go_simp
            refine (w_qlist (HW6.out.l.on (((Below.refl u6.heap.size u6).drew).trans (hb1.mono ((Below.refl u6.heap.size u6).drew).size))) on HSZ.out L m HLQ.out).mono ?_
            rintro e y2 ⟨A2, c2, rfl, ho2, hb2⟩
            try dsimp only
            refine hK.out _ _ ((((Below.refl u6.heap.size u6).drew).trans (hb1.mono ((Below.refl u6.heap.size u6).drew).size)).trans (hb2.mono (((Below.refl u6.heap.size u6).drew).trans (hb1.mono ((Below.refl u6.heap.size u6).drew).size)).size)) (fun hHeld => ?_)
            try simp only [Act.put, List.setIfInBounds_toArray, List.set_cons_zero, List.set_cons_succ, List.getElem_toArray, List.getElem_cons_succ, List.getElem_cons_zero]
            refine wpAnyH_ready (rs := [26]) (by kernel_rfl) (by simp) (AllReadyH.cons rfl (fun K hK => ?_) AllReadyH.nil)
            rw [if_pos (by kernel_rfl)]
            go_simp
            refine (d_list (HW6.out.r.on ((((Below.refl u6.heap.size u6).drew).trans (hb1.mono ((Below.refl u6.heap.size u6).drew).size)).trans (hb2.mono (((Below.refl u6.heap.size u6).drew).trans (hb1.mono ((Below.refl u6.heap.size u6).drew).size)).size))) on L m HLQ.out HF2.out).mono ?_
            rintro e y3 ⟨A3, c3, rfl, ho3, hb3⟩
            try dsimp only
            refine hK.out _ _ (((((Below.refl u6.heap.size u6).drew).trans (hb1.mono ((Below.refl u6.heap.size u6).drew).size)).trans (hb2.mono (((Below.refl u6.heap.size u6).drew).trans (hb1.mono ((Below.refl u6.heap.size u6).drew).size)).size)).trans (hb3.mono ((((Below.refl u6.heap.size u6).drew).trans (hb1.mono ((Below.refl u6.heap.size u6).drew).size)).trans (hb2.mono (((Below.refl u6.heap.size u6).drew).trans (hb1.mono ((Below.refl u6.heap.size u6).drew).size)).size)).size)) (fun hHeld => ?_)
            try simp only [Act.put, List.setIfInBounds_toArray, List.set_cons_zero, List.set_cons_succ, List.getElem_toArray, List.getElem_cons_succ, List.getElem_cons_zero]
            refine wpAnyH_ready (rs := [27]) (by kernel_rfl) (by simp) (AllReadyH.cons rfl (fun K hK => ?_) AllReadyH.nil)
            rw [if_pos (by kernel_rfl)]
            go_simp
            refine (same_b A2 A3 c2 c3 L [] [] y3 m HLQ.out.2 ((ho2.ri (K := []) (fun _ hx => by cases hx)).below hb3 (Nat.le_refl _)) (ho3.ri (K := []) (fun _ hx => by cases hx)) (by omega)).mono ?_
            rintro e y4 ⟨rfl, hk4⟩
            try dsimp only
            refine hK.out _ _ ((((((Below.refl u6.heap.size u6).drew).trans (hb1.mono ((Below.refl u6.heap.size u6).drew).size)).trans (hb2.mono (((Below.refl u6.heap.size u6).drew).trans (hb1.mono ((Below.refl u6.heap.size u6).drew).size)).size)).trans (hb3.mono ((((Below.refl u6.heap.size u6).drew).trans (hb1.mono ((Below.refl u6.heap.size u6).drew).size)).trans (hb2.mono (((Below.refl u6.heap.size u6).drew).trans (hb1.mono ((Below.refl u6.heap.size u6).drew).size)).size)).size)).trans (hk4.b0.mono (((((Below.refl u6.heap.size u6).drew).trans (hb1.mono ((Below.refl u6.heap.size u6).drew).size)).trans (hb2.mono (((Below.refl u6.heap.size u6).drew).trans (hb1.mono ((Below.refl u6.heap.size u6).drew).size)).size)).trans (hb3.mono ((((Below.refl u6.heap.size u6).drew).trans (hb1.mono ((Below.refl u6.heap.size u6).drew).size)).trans (hb2.mono (((Below.refl u6.heap.size u6).drew).trans (hb1.mono ((Below.refl u6.heap.size u6).drew).size)).size)).size)).size)) (fun hHeld => ?_)
            try simp only [Act.put, List.setIfInBounds_toArray, List.set_cons_zero, List.set_cons_succ, List.getElem_toArray, List.getElem_cons_succ, List.getElem_cons_zero]
            refine take_at (some 140) (i := 28) (v := ?_) rfl rfl (by kernel_rfl) (by kernel_rfl) (by kernel_rfl) (fun _ _ _ h => h) (Or.inl ⟨by kernel_rfl, ?_⟩) hHeld ?_
            rotate_left
            · intro wz hSw; go_simp; try (with_reducible rfl)
            try simp only [Act.put, List.setIfInBounds_toArray, List.set_cons_zero, List.set_cons_succ, List.getElem_toArray, List.getElem_cons_succ, List.getElem_cons_zero]
            refine take_at (some 141) (i := 29) (v := ?_) rfl rfl (by kernel_rfl) (by kernel_rfl) (by kernel_rfl) (fun _ _ _ h => h) (Or.inl ⟨by kernel_rfl, ?_⟩) hHeld ?_
            rotate_left
            · intro wz hSw; go_simp; try (with_reducible rfl)
            try simp only [Act.put, List.setIfInBounds_toArray, List.set_cons_zero, List.set_cons_succ, List.getElem_toArray, List.getElem_cons_succ, List.getElem_cons_zero]
            refine wpAnyH_done (by kernel_rfl) ?_ _
            refine gen_qu (fun y => WD W y G1 qb q2 H6 db q2) (HW6.out.on ((((((Below.refl u6.heap.size u6).drew).trans (hb1.mono ((Below.refl u6.heap.size u6).drew).size)).trans (hb2.mono (((Below.refl u6.heap.size u6).drew).trans (hb1.mono ((Below.refl u6.heap.size u6).drew).size)).size)).trans (hb3.mono ((((Below.refl u6.heap.size u6).drew).trans (hb1.mono ((Below.refl u6.heap.size u6).drew).size)).trans (hb2.mono (((Below.refl u6.heap.size u6).drew).trans (hb1.mono ((Below.refl u6.heap.size u6).drew).size)).size)).size)).trans (hk4.b0.mono (((((Below.refl u6.heap.size u6).drew).trans (hb1.mono ((Below.refl u6.heap.size u6).drew).size)).trans (hb2.mono (((Below.refl u6.heap.size u6).drew).trans (hb1.mono ((Below.refl u6.heap.size u6).drew).size)).size)).trans (hb3.mono ((((Below.refl u6.heap.size u6).drew).trans (hb1.mono ((Below.refl u6.heap.size u6).drew).size)).trans (hb2.mono (((Below.refl u6.heap.size u6).drew).trans (hb1.mono ((Below.refl u6.heap.size u6).drew).size)).size)).size)).size))) (fun y hy => ?_)
            have HWY := Lib.hid hy
            clear hy hHeld ho2 ho3 hb1 hb2 hb3 hk4
            go_wp2_with fail
            go_roundw
            case rel => exact ⟨i + 1, G1, H6, q2, by omega, by go_num, HWY⟩
            case measure => simp [intOf]; omega
        · have h3b : (ow == 3) = false := by simp [h3]
          by_cases h4 : ow = 4
          · have h4b : (ow == 4) = true := by simp [h4]
            as_aux_lemma =>
              obtain ⟨⟨is, q2⟩, hR⟩ : ∃ R, drQ q oi = R := ⟨_, rfl⟩
              have HR := Lib.hid hR
              have hni : (is != is) = false := by simp
              clear hR
              go_upto_region 22 with (go_at_call 15; (with_reducible refine (w_qdrop HWv.out.l oi HWF.out is q2 HR.out).mono ?_); rintro e u5 ⟨rfl, h1, h2⟩; have HW5 := Lib.hid (HWv.out.left h2 h1); have HB5 := Lib.hid (HB.out.step (h2.left H1)); clear h1 h2)
              clear e0 e1 e2
              have e0 : u5.cell? ⟨kb, 0, none⟩ = some (.int .i64 ow) := HB5.out.b.cell 0
              have e1 : u5.cell? ⟨kb, 1, none⟩ = some (.string on) := HB5.out.b.cell 1
              have e2 : u5.cell? ⟨kb, 2, none⟩ = some (.int .i64 oi) := HB5.out.b.cell 2
              go_upto_region 25 with (go_at_call 16; (with_reducible refine (d_drop HW5.out.r oi is q2 HR.out HF.out).mono ?_); rintro e u6 ⟨H6, rfl, h1, h2⟩; have HW6 := Lib.hid (HW5.out.right h2 h1); have HB6 := Lib.hid (HB5.out.step (h2.right G1)); clear h1 h2)
              clear e0 e1 e2
              have e0 : u6.cell? ⟨kb, 0, none⟩ = some (.int .i64 ow) := HB6.out.b.cell 0
              have e1 : u6.cell? ⟨kb, 1, none⟩ = some (.string on) := HB6.out.b.cell 1
              have e2 : u6.cell? ⟨kb, 2, none⟩ = some (.int .i64 oi) := HB6.out.b.cell 2
              obtain ⟨wn, hwn⟩ : ∃ wn, whN q2 oi = wn := ⟨_, rfl⟩
              obtain ⟨wi, hwi⟩ : ∃ wi, (whQ q2 oi).isSome = wi := ⟨_, rfl⟩
              obtain ⟨L, hL⟩ : ∃ L, liQ q2 on = L := ⟨_, rfl⟩
              obtain ⟨m, hm⟩ : ∃ m, L.length = m := ⟨_, rfl⟩
              obtain ⟨M, hM⟩ : ∃ M, q2.length = M := ⟨_, rfl⟩
              have HWN := Lib.hid (And.intro hwn hwi)
              have HLQ := Lib.hid (And.intro hL hm)
              have HMQ := Lib.hid hM
              have HF2 := Lib.hid (HW6.out.l.ok.few)
              have hm64 : m ≤ 64 := by rw [← hm, ← hL]; exact Nat.le_trans (li_le q2 on) HW6.out.l.ok.few
              obtain ⟨A6, c6, hbk, _, _⟩ := HW6.out.r.ex
              rw [hM] at hbk
              have HBK := Lib.hid hbk
              have hwne : (wn.toList != wn.toList) = false := by simp
              have hwie : (wi != wi) = false := by simp
              have hMM : ((M : Int) != (M : Int)) = false := by simp
              clear hwn hwi hL hm hM hbk
              go_upto_region 26 with (go_at_call 19; (with_reducible refine (w_qwhere HW6.out.l oi HWF.out wn wi HWN.out).mono ?_); rintro e ux ⟨rfl, hu⟩; rw [hu]; clear hu)
              go_upto_region 27 with (go_at_call 20; (with_reducible refine (d_where HW6.out.r oi wn wi HWN.out HF2.out).mono ?_); rintro e ux ⟨rfl, hu⟩; rw [hu]; clear hu)
              clear e0 e1 e2
              try simp only [List.cons_append, List.nil_append]
              refine wp_region_held_drew (S := fun wz => Below u6.heap.size u6 wz) (by kernel_rfl) ((Below.refl _ _).drew) (fun hHeld => ?_)
              refine take_at (some 112) (i := 0) (v := ?_) rfl rfl (by kernel_rfl) (by kernel_rfl) (by kernel_rfl) (fun _ _ _ h => h) (Or.inl ⟨by kernel_rfl, ?_⟩) hHeld ?_
              rotate_left
              · intro wz hSw; go_simp; try (with_reducible rfl)
              try simp only [Act.put, List.setIfInBounds_toArray, List.set_cons_zero, List.set_cons_succ, List.getElem_toArray, List.getElem_cons_succ, List.getElem_cons_zero]
              refine take_at (some 113) (i := 1) (v := ?_) rfl rfl (by kernel_rfl) (by kernel_rfl) (by kernel_rfl) (fun _ _ _ h => h) (Or.inl ⟨by kernel_rfl, ?_⟩) hHeld ?_
              rotate_left
              · intro wz hSw; go_simp; try (with_reducible rfl)
              try simp only [Act.put, List.setIfInBounds_toArray, List.set_cons_zero, List.set_cons_succ, List.getElem_toArray, List.getElem_cons_succ, List.getElem_cons_zero]
              refine take_at (some 114) (i := 2) (v := ?_) rfl rfl (by kernel_rfl) (by kernel_rfl) (by kernel_rfl) (fun _ _ _ h => h) (Or.inl ⟨by kernel_rfl, ?_⟩) hHeld ?_
              rotate_left
              · intro wz hSw; go_simp; try (with_reducible rfl)
              try simp only [Act.put, List.setIfInBounds_toArray, List.set_cons_zero, List.set_cons_succ, List.getElem_toArray, List.getElem_cons_succ, List.getElem_cons_zero]
              refine take_at (some 115) (i := 3) (v := ?_) rfl rfl (by kernel_rfl) (by kernel_rfl) (by kernel_rfl) (fun _ _ _ h => h) (Or.inl ⟨by kernel_rfl, ?_⟩) hHeld ?_
              rotate_left
              · intro wz hSw; go_simp; try (with_reducible rfl)
              try simp only [Act.put, List.setIfInBounds_toArray, List.set_cons_zero, List.set_cons_succ, List.getElem_toArray, List.getElem_cons_succ, List.getElem_cons_zero]
              refine take_at (some 116) (i := 4) (v := ?_) rfl rfl (by kernel_rfl) (by kernel_rfl) (by kernel_rfl) (fun _ _ _ h => h) (Or.inl ⟨by kernel_rfl, ?_⟩) hHeld ?_
              rotate_left
              · intro wz hSw; go_simp; try (with_reducible rfl)
              try simp only [Act.put, List.setIfInBounds_toArray, List.set_cons_zero, List.set_cons_succ, List.getElem_toArray, List.getElem_cons_succ, List.getElem_cons_zero]
              refine take_at (some 117) (i := 5) (v := ?_) rfl rfl (by kernel_rfl) (by kernel_rfl) (by kernel_rfl) (fun _ _ _ h => h) (Or.inl ⟨by kernel_rfl, ?_⟩) hHeld ?_
              rotate_left
              · intro wz hSw; go_simp; try (with_reducible rfl)
              try simp only [Act.put, List.setIfInBounds_toArray, List.set_cons_zero, List.set_cons_succ, List.getElem_toArray, List.getElem_cons_succ, List.getElem_cons_zero]
              refine take_at (some 118) (i := 6) (v := ?_) rfl rfl (by kernel_rfl) (by kernel_rfl) (by kernel_rfl) (fun _ _ _ h => h) (Or.inl ⟨by kernel_rfl, ?_⟩) hHeld ?_
              rotate_left
              · intro wz hSw; go_simp; try (with_reducible rfl)
              try simp only [Act.put, List.setIfInBounds_toArray, List.set_cons_zero, List.set_cons_succ, List.getElem_toArray, List.getElem_cons_succ, List.getElem_cons_zero]
              refine take_at (some 119) (i := 7) (v := ?_) rfl rfl (by kernel_rfl) (by kernel_rfl) (by kernel_rfl) (fun _ _ _ h => h) (Or.inl ⟨by kernel_rfl, ?_⟩) hHeld ?_
              rotate_left
              · intro wz hSw; go_simp; try (with_reducible rfl)
              try simp only [Act.put, List.setIfInBounds_toArray, List.set_cons_zero, List.set_cons_succ, List.getElem_toArray, List.getElem_cons_succ, List.getElem_cons_zero]
              refine take_at (some 120) (i := 8) (v := ?_) rfl rfl (by kernel_rfl) (by kernel_rfl) (by kernel_rfl) (fun _ _ _ h => h) (Or.inl ⟨by kernel_rfl, ?_⟩) hHeld ?_
              rotate_left
              · intro wz hSw; go_simp; try (with_reducible rfl)
              try simp only [Act.put, List.setIfInBounds_toArray, List.set_cons_zero, List.set_cons_succ, List.getElem_toArray, List.getElem_cons_succ, List.getElem_cons_zero]
              refine take_at (some 121) (i := 9) (v := ?_) rfl rfl (by kernel_rfl) (by kernel_rfl) (by kernel_rfl) (fun _ _ _ h => h) (Or.inl ⟨by kernel_rfl, ?_⟩) hHeld ?_
              rotate_left
              · intro wz hSw; go_simp; try (with_reducible rfl)
              try simp only [Act.put, List.setIfInBounds_toArray, List.set_cons_zero, List.set_cons_succ, List.getElem_toArray, List.getElem_cons_succ, List.getElem_cons_zero]
              refine take_at (some 123) (i := 11) (v := ?_) rfl rfl (by kernel_rfl) (by kernel_rfl) (by kernel_rfl) (fun _ _ _ h => h) (Or.inl ⟨by kernel_rfl, ?_⟩) hHeld ?_
              rotate_left
              · intro wz hSw; go_simp; try (with_reducible rfl)
              try simp only [Act.put, List.setIfInBounds_toArray, List.set_cons_zero, List.set_cons_succ, List.getElem_toArray, List.getElem_cons_succ, List.getElem_cons_zero]
              refine take_at (some 124) (i := 12) (v := ?_) rfl rfl (by kernel_rfl) (by kernel_rfl) (by kernel_rfl) (fun _ _ _ h => h) (Or.inl ⟨by kernel_rfl, ?_⟩) hHeld ?_
              rotate_left
              · intro wz hSw; go_simp; try (with_reducible rfl)
              try simp only [Act.put, List.setIfInBounds_toArray, List.set_cons_zero, List.set_cons_succ, List.getElem_toArray, List.getElem_cons_succ, List.getElem_cons_zero]
              refine take_at (some 125) (i := 13) (v := ?_) rfl rfl (by kernel_rfl) (by kernel_rfl) (by kernel_rfl) (fun _ _ _ h => h) (Or.inl ⟨by kernel_rfl, ?_⟩) hHeld ?_
              rotate_left
              · intro wz hSw; go_simp; try (with_reducible rfl)
              try simp only [Act.put, List.setIfInBounds_toArray, List.set_cons_zero, List.set_cons_succ, List.getElem_toArray, List.getElem_cons_succ, List.getElem_cons_zero]
              refine take_at (some 126) (i := 14) (v := ?_) rfl rfl (by kernel_rfl) (by kernel_rfl) (by kernel_rfl) (fun _ _ _ h => h) (Or.inl ⟨by kernel_rfl, ?_⟩) hHeld ?_
              rotate_left
              · intro wz hSw; have e0 : wz.cell? ⟨db, 0, none⟩ = some (.slice A6 M c6) := (HBK.out.below hSw HBK.out.lt).cell 0; go_simp; try (with_reducible rfl)
              try simp only [Act.put, List.setIfInBounds_toArray, List.set_cons_zero, List.set_cons_succ, List.getElem_toArray, List.getElem_cons_succ, List.getElem_cons_zero]
              refine take_at (some 127) (i := 15) (v := ?_) rfl rfl (by kernel_rfl) (by kernel_rfl) (by kernel_rfl) (fun _ _ _ h => h) (Or.inl ⟨by kernel_rfl, ?_⟩) hHeld ?_
              rotate_left
              · intro wz hSw; go_simp; try (with_reducible rfl)
              try simp only [Act.put, List.setIfInBounds_toArray, List.set_cons_zero, List.set_cons_succ, List.getElem_toArray, List.getElem_cons_succ, List.getElem_cons_zero]
              refine wpAnyH_ready (rs := [10]) (by kernel_rfl) (by simp) (AllReadyH.cons rfl (fun K hK => ?_) AllReadyH.nil)
              rw [if_pos (by kernel_rfl)]
              go_simp
              refine (w_qmany (HW6.out.l.on ((Below.refl u6.heap.size u6).drew)) M HMQ.out).mono ?_
              rintro e y1 ⟨rfl, hb1⟩
              try dsimp only
              refine hK.out _ _ (((Below.refl u6.heap.size u6).drew).trans (hb1.mono ((Below.refl u6.heap.size u6).drew).size)) (fun hHeld => ?_)
              try simp only [Act.put, List.setIfInBounds_toArray, List.set_cons_zero, List.set_cons_succ, List.getElem_toArray, List.getElem_cons_succ, List.getElem_cons_zero]
              refine take_at (some 128) (i := 16) (v := ?_) rfl rfl (by kernel_rfl) (by kernel_rfl) (by kernel_rfl) (fun _ _ _ h => h) (Or.inl ⟨by kernel_rfl, ?_⟩) hHeld ?_
              rotate_left
              · intro wz hSw; go_simp; try (with_reducible rfl)
              try simp only [Act.put, List.setIfInBounds_toArray, List.set_cons_zero, List.set_cons_succ, List.getElem_toArray, List.getElem_cons_succ, List.getElem_cons_zero]
              refine take_at (some 129) (i := 17) (v := ?_) rfl rfl (by kernel_rfl) (by kernel_rfl) (by kernel_rfl) (fun _ _ _ h => h) (Or.inl ⟨by kernel_rfl, ?_⟩) hHeld ?_
              rotate_left
              · intro wz hSw; go_simp; try (with_reducible rfl)
              try simp only [Act.put, List.setIfInBounds_toArray, List.set_cons_zero, List.set_cons_succ, List.getElem_toArray, List.getElem_cons_succ, List.getElem_cons_zero]
              refine take_at (some 130) (i := 18) (v := ?_) rfl rfl (by kernel_rfl) (by kernel_rfl) (by kernel_rfl) (fun _ _ _ h => h) (Or.inl ⟨by kernel_rfl, ?_⟩) hHeld ?_
              rotate_left
              · intro wz hSw; go_simp; try (with_reducible rfl)
              try simp only [Act.put, List.setIfInBounds_toArray, List.set_cons_zero, List.set_cons_succ, List.getElem_toArray, List.getElem_cons_succ, List.getElem_cons_zero]
              refine take_at (some 131) (i := 19) (v := ?_) rfl rfl (by kernel_rfl) (by kernel_rfl) (by kernel_rfl) (fun _ _ _ h => h) (Or.inl ⟨by kernel_rfl, ?_⟩) hHeld ?_
              rotate_left
              · intro wz hSw; go_simp; try (with_reducible rfl)
              try simp only [Act.put, List.setIfInBounds_toArray, List.set_cons_zero, List.set_cons_succ, List.getElem_toArray, List.getElem_cons_succ, List.getElem_cons_zero]
              refine take_at (some 132) (i := 20) (v := ?_) rfl rfl (by kernel_rfl) (by kernel_rfl) (by kernel_rfl) (fun _ _ _ h => h) (Or.inl ⟨by kernel_rfl, ?_⟩) hHeld ?_
              rotate_left
              · intro wz hSw; go_simp; try (with_reducible rfl)
              try simp only [Act.put, List.setIfInBounds_toArray, List.set_cons_zero, List.set_cons_succ, List.getElem_toArray, List.getElem_cons_succ, List.getElem_cons_zero]
              refine take_at (some 133) (i := 21) (v := ?_) rfl rfl (by kernel_rfl) (by kernel_rfl) (by kernel_rfl) (fun _ _ _ h => h) (Or.inl ⟨by kernel_rfl, ?_⟩) hHeld ?_
              rotate_left
              · intro wz hSw; have e1 : wz.cell? ⟨kb, 1, none⟩ = some (.string on) := (HB6.out.b.below hSw HB6.out.b.lt).cell 1; go_simp; try (with_reducible rfl)
              try simp only [Act.put, List.setIfInBounds_toArray, List.set_cons_zero, List.set_cons_succ, List.getElem_toArray, List.getElem_cons_succ, List.getElem_cons_zero]
              refine take_at (some 135) (i := 23) (v := ?_) rfl rfl (by kernel_rfl) (by kernel_rfl) (by kernel_rfl) (fun _ _ _ h => h) (Or.inl ⟨by kernel_rfl, ?_⟩) hHeld ?_
              rotate_left
              · intro wz hSw; go_simp; try (with_reducible rfl)
              try simp only [Act.put, List.setIfInBounds_toArray, List.set_cons_zero, List.set_cons_succ, List.getElem_toArray, List.getElem_cons_succ, List.getElem_cons_zero]
              refine take_at (some 136) (i := 24) (v := ?_) rfl rfl (by kernel_rfl) (by kernel_rfl) (by kernel_rfl) (fun _ _ _ h => h) (Or.inl ⟨by kernel_rfl, ?_⟩) hHeld ?_
              rotate_left
              · intro wz hSw; go_simp; try (with_reducible rfl)
              try simp only [Act.put, List.setIfInBounds_toArray, List.set_cons_zero, List.set_cons_succ, List.getElem_toArray, List.getElem_cons_succ, List.getElem_cons_zero]
              refine take_at (some 137) (i := 25) (v := ?_) rfl rfl (by kernel_rfl) (by kernel_rfl) (by kernel_rfl) (fun _ _ _ h => h) (Or.inl ⟨by kernel_rfl, ?_⟩) hHeld ?_
              rotate_left
              · intro wz hSw; have e1 : wz.cell? ⟨kb, 1, none⟩ = some (.string on) := (HB6.out.b.below hSw HB6.out.b.lt).cell 1; go_simp; try (with_reducible rfl)
              try simp only [Act.put, List.setIfInBounds_toArray, List.set_cons_zero, List.set_cons_succ, List.getElem_toArray, List.getElem_cons_succ, List.getElem_cons_zero]
              refine wpAnyH_ready (rs := [22]) (by kernel_rfl) (by simp) (AllReadyH.cons rfl (fun K hK => ?_) AllReadyH.nil)
              rw [if_pos (by kernel_rfl)]
              go_simp
              refine (w_qlist (HW6.out.l.on (((Below.refl u6.heap.size u6).drew).trans (hb1.mono ((Below.refl u6.heap.size u6).drew).size))) on HSZ.out L m HLQ.out).mono ?_
              rintro e y2 ⟨A2, c2, rfl, ho2, hb2⟩
              try dsimp only
              refine hK.out _ _ ((((Below.refl u6.heap.size u6).drew).trans (hb1.mono ((Below.refl u6.heap.size u6).drew).size)).trans (hb2.mono (((Below.refl u6.heap.size u6).drew).trans (hb1.mono ((Below.refl u6.heap.size u6).drew).size)).size)) (fun hHeld => ?_)
              try simp only [Act.put, List.setIfInBounds_toArray, List.set_cons_zero, List.set_cons_succ, List.getElem_toArray, List.getElem_cons_succ, List.getElem_cons_zero]
              refine wpAnyH_ready (rs := [26]) (by kernel_rfl) (by simp) (AllReadyH.cons rfl (fun K hK => ?_) AllReadyH.nil)
              rw [if_pos (by kernel_rfl)]
              go_simp
              refine (d_list (HW6.out.r.on ((((Below.refl u6.heap.size u6).drew).trans (hb1.mono ((Below.refl u6.heap.size u6).drew).size)).trans (hb2.mono (((Below.refl u6.heap.size u6).drew).trans (hb1.mono ((Below.refl u6.heap.size u6).drew).size)).size))) on L m HLQ.out HF2.out).mono ?_
              rintro e y3 ⟨A3, c3, rfl, ho3, hb3⟩
              try dsimp only
              refine hK.out _ _ (((((Below.refl u6.heap.size u6).drew).trans (hb1.mono ((Below.refl u6.heap.size u6).drew).size)).trans (hb2.mono (((Below.refl u6.heap.size u6).drew).trans (hb1.mono ((Below.refl u6.heap.size u6).drew).size)).size)).trans (hb3.mono ((((Below.refl u6.heap.size u6).drew).trans (hb1.mono ((Below.refl u6.heap.size u6).drew).size)).trans (hb2.mono (((Below.refl u6.heap.size u6).drew).trans (hb1.mono ((Below.refl u6.heap.size u6).drew).size)).size)).size)) (fun hHeld => ?_)
              try simp only [Act.put, List.setIfInBounds_toArray, List.set_cons_zero, List.set_cons_succ, List.getElem_toArray, List.getElem_cons_succ, List.getElem_cons_zero]
              refine wpAnyH_ready (rs := [27]) (by kernel_rfl) (by simp) (AllReadyH.cons rfl (fun K hK => ?_) AllReadyH.nil)
              rw [if_pos (by kernel_rfl)]
              go_simp
              refine (same_b A2 A3 c2 c3 L [] [] y3 m HLQ.out.2 ((ho2.ri (K := []) (fun _ hx => by cases hx)).below hb3 (Nat.le_refl _)) (ho3.ri (K := []) (fun _ hx => by cases hx)) (by omega)).mono ?_
              rintro e y4 ⟨rfl, hk4⟩
              try dsimp only
              refine hK.out _ _ ((((((Below.refl u6.heap.size u6).drew).trans (hb1.mono ((Below.refl u6.heap.size u6).drew).size)).trans (hb2.mono (((Below.refl u6.heap.size u6).drew).trans (hb1.mono ((Below.refl u6.heap.size u6).drew).size)).size)).trans (hb3.mono ((((Below.refl u6.heap.size u6).drew).trans (hb1.mono ((Below.refl u6.heap.size u6).drew).size)).trans (hb2.mono (((Below.refl u6.heap.size u6).drew).trans (hb1.mono ((Below.refl u6.heap.size u6).drew).size)).size)).size)).trans (hk4.b0.mono (((((Below.refl u6.heap.size u6).drew).trans (hb1.mono ((Below.refl u6.heap.size u6).drew).size)).trans (hb2.mono (((Below.refl u6.heap.size u6).drew).trans (hb1.mono ((Below.refl u6.heap.size u6).drew).size)).size)).trans (hb3.mono ((((Below.refl u6.heap.size u6).drew).trans (hb1.mono ((Below.refl u6.heap.size u6).drew).size)).trans (hb2.mono (((Below.refl u6.heap.size u6).drew).trans (hb1.mono ((Below.refl u6.heap.size u6).drew).size)).size)).size)).size)) (fun hHeld => ?_)
              try simp only [Act.put, List.setIfInBounds_toArray, List.set_cons_zero, List.set_cons_succ, List.getElem_toArray, List.getElem_cons_succ, List.getElem_cons_zero]
              refine take_at (some 140) (i := 28) (v := ?_) rfl rfl (by kernel_rfl) (by kernel_rfl) (by kernel_rfl) (fun _ _ _ h => h) (Or.inl ⟨by kernel_rfl, ?_⟩) hHeld ?_
              rotate_left
              · intro wz hSw; go_simp; try (with_reducible rfl)
              try simp only [Act.put, List.setIfInBounds_toArray, List.set_cons_zero, List.set_cons_succ, List.getElem_toArray, List.getElem_cons_succ, List.getElem_cons_zero]
              refine take_at (some 141) (i := 29) (v := ?_) rfl rfl (by kernel_rfl) (by kernel_rfl) (by kernel_rfl) (fun _ _ _ h => h) (Or.inl ⟨by kernel_rfl, ?_⟩) hHeld ?_
              rotate_left
              · intro wz hSw; go_simp; try (with_reducible rfl)
              try simp only [Act.put, List.setIfInBounds_toArray, List.set_cons_zero, List.set_cons_succ, List.getElem_toArray, List.getElem_cons_succ, List.getElem_cons_zero]
              refine wpAnyH_done (by kernel_rfl) ?_ _
              refine gen_qu (fun y => WD W y G1 qb q2 H6 db q2) (HW6.out.on ((((((Below.refl u6.heap.size u6).drew).trans (hb1.mono ((Below.refl u6.heap.size u6).drew).size)).trans (hb2.mono (((Below.refl u6.heap.size u6).drew).trans (hb1.mono ((Below.refl u6.heap.size u6).drew).size)).size)).trans (hb3.mono ((((Below.refl u6.heap.size u6).drew).trans (hb1.mono ((Below.refl u6.heap.size u6).drew).size)).trans (hb2.mono (((Below.refl u6.heap.size u6).drew).trans (hb1.mono ((Below.refl u6.heap.size u6).drew).size)).size)).size)).trans (hk4.b0.mono (((((Below.refl u6.heap.size u6).drew).trans (hb1.mono ((Below.refl u6.heap.size u6).drew).size)).trans (hb2.mono (((Below.refl u6.heap.size u6).drew).trans (hb1.mono ((Below.refl u6.heap.size u6).drew).size)).size)).trans (hb3.mono ((((Below.refl u6.heap.size u6).drew).trans (hb1.mono ((Below.refl u6.heap.size u6).drew).size)).trans (hb2.mono (((Below.refl u6.heap.size u6).drew).trans (hb1.mono ((Below.refl u6.heap.size u6).drew).size)).size)).size)).size))) (fun y hy => ?_)
              have HWY := Lib.hid hy
              clear hy hHeld ho2 ho3 hb1 hb2 hb3 hk4
              go_wp2_with fail
              go_roundw
              case rel => exact ⟨i + 1, G1, H6, q2, by omega, by go_num, HWY⟩
              case measure => simp [intOf]; omega
          · have h4b : (ow == 4) = false := by simp [h4]
            as_aux_lemma =>
              obtain ⟨⟨er, q2⟩, hR⟩ : ∃ R, puQ q on oi = R := ⟨_, rfl⟩
              have HR := Lib.hid hR
              have hne : (er != er) = false := by simp
              clear hR
              go_upto_region 12 with (go_at_call 17; (with_reducible refine (w_qput HWv.out.l on oi HSZ.out HWF.out er q2 HR.out).mono ?_); rintro e u5 ⟨G5, rfl, h1, h2⟩; have HW5 := Lib.hid (HWv.out.left h2 h1); have HB5 := Lib.hid (HB.out.step (h2.left H1)); clear h1 h2)
              clear e0 e1 e2
              have e0 : u5.cell? ⟨kb, 0, none⟩ = some (.int .i64 ow) := HB5.out.b.cell 0
              have e1 : u5.cell? ⟨kb, 1, none⟩ = some (.string on) := HB5.out.b.cell 1
              have e2 : u5.cell? ⟨kb, 2, none⟩ = some (.int .i64 oi) := HB5.out.b.cell 2
              go_upto_region 25 with (go_at_call 18; (with_reducible refine (d_put HW5.out.r on oi er q2 HR.out HF.out).mono ?_); rintro e u6 ⟨H6, rfl, h1, h2⟩; have HW6 := Lib.hid (HW5.out.right h2 h1); have HB6 := Lib.hid (HB5.out.step (h2.right G5)); clear h1 h2)
              clear e0 e1 e2
              have e0 : u6.cell? ⟨kb, 0, none⟩ = some (.int .i64 ow) := HB6.out.b.cell 0
              have e1 : u6.cell? ⟨kb, 1, none⟩ = some (.string on) := HB6.out.b.cell 1
              have e2 : u6.cell? ⟨kb, 2, none⟩ = some (.int .i64 oi) := HB6.out.b.cell 2
              obtain ⟨wn, hwn⟩ : ∃ wn, whN q2 oi = wn := ⟨_, rfl⟩
              obtain ⟨wi, hwi⟩ : ∃ wi, (whQ q2 oi).isSome = wi := ⟨_, rfl⟩
              obtain ⟨L, hL⟩ : ∃ L, liQ q2 on = L := ⟨_, rfl⟩
              obtain ⟨m, hm⟩ : ∃ m, L.length = m := ⟨_, rfl⟩
              obtain ⟨M, hM⟩ : ∃ M, q2.length = M := ⟨_, rfl⟩
              have HWN := Lib.hid (And.intro hwn hwi)
              have HLQ := Lib.hid (And.intro hL hm)
              have HMQ := Lib.hid hM
              have HF2 := Lib.hid (HW6.out.l.ok.few)
              have hm64 : m ≤ 64 := by rw [← hm, ← hL]; exact Nat.le_trans (li_le q2 on) HW6.out.l.ok.few
              obtain ⟨A6, c6, hbk, _, _⟩ := HW6.out.r.ex
              rw [hM] at hbk
              have HBK := Lib.hid hbk
              have hwne : (wn.toList != wn.toList) = false := by simp
              have hwie : (wi != wi) = false := by simp
              have hMM : ((M : Int) != (M : Int)) = false := by simp
              clear hwn hwi hL hm hM hbk
              go_upto_region 26 with (go_at_call 19; (with_reducible refine (w_qwhere HW6.out.l oi HWF.out wn wi HWN.out).mono ?_); rintro e ux ⟨rfl, hu⟩; rw [hu]; clear hu)
              go_upto_region 27 with (go_at_call 20; (with_reducible refine (d_where HW6.out.r oi wn wi HWN.out HF2.out).mono ?_); rintro e ux ⟨rfl, hu⟩; rw [hu]; clear hu)
              clear e0 e1 e2
              try simp only [List.cons_append, List.nil_append]
              refine wp_region_held_drew (S := fun wz => Below u6.heap.size u6 wz) (by kernel_rfl) ((Below.refl _ _).drew) (fun hHeld => ?_)
              refine take_at (some 112) (i := 0) (v := ?_) rfl rfl (by kernel_rfl) (by kernel_rfl) (by kernel_rfl) (fun _ _ _ h => h) (Or.inl ⟨by kernel_rfl, ?_⟩) hHeld ?_
              rotate_left
              · intro wz hSw; go_simp; try (with_reducible rfl)
              try simp only [Act.put, List.setIfInBounds_toArray, List.set_cons_zero, List.set_cons_succ, List.getElem_toArray, List.getElem_cons_succ, List.getElem_cons_zero]
              refine take_at (some 113) (i := 1) (v := ?_) rfl rfl (by kernel_rfl) (by kernel_rfl) (by kernel_rfl) (fun _ _ _ h => h) (Or.inl ⟨by kernel_rfl, ?_⟩) hHeld ?_
              rotate_left
              · intro wz hSw; go_simp; try (with_reducible rfl)
              try simp only [Act.put, List.setIfInBounds_toArray, List.set_cons_zero, List.set_cons_succ, List.getElem_toArray, List.getElem_cons_succ, List.getElem_cons_zero]
              refine take_at (some 114) (i := 2) (v := ?_) rfl rfl (by kernel_rfl) (by kernel_rfl) (by kernel_rfl) (fun _ _ _ h => h) (Or.inl ⟨by kernel_rfl, ?_⟩) hHeld ?_
              rotate_left
              · intro wz hSw; go_simp; try (with_reducible rfl)
              try simp only [Act.put, List.setIfInBounds_toArray, List.set_cons_zero, List.set_cons_succ, List.getElem_toArray, List.getElem_cons_succ, List.getElem_cons_zero]
              refine take_at (some 115) (i := 3) (v := ?_) rfl rfl (by kernel_rfl) (by kernel_rfl) (by kernel_rfl) (fun _ _ _ h => h) (Or.inl ⟨by kernel_rfl, ?_⟩) hHeld ?_
              rotate_left
              · intro wz hSw; go_simp; try (with_reducible rfl)
              try simp only [Act.put, List.setIfInBounds_toArray, List.set_cons_zero, List.set_cons_succ, List.getElem_toArray, List.getElem_cons_succ, List.getElem_cons_zero]
              refine take_at (some 116) (i := 4) (v := ?_) rfl rfl (by kernel_rfl) (by kernel_rfl) (by kernel_rfl) (fun _ _ _ h => h) (Or.inl ⟨by kernel_rfl, ?_⟩) hHeld ?_
              rotate_left
              · intro wz hSw; go_simp; try (with_reducible rfl)
              try simp only [Act.put, List.setIfInBounds_toArray, List.set_cons_zero, List.set_cons_succ, List.getElem_toArray, List.getElem_cons_succ, List.getElem_cons_zero]
              refine take_at (some 117) (i := 5) (v := ?_) rfl rfl (by kernel_rfl) (by kernel_rfl) (by kernel_rfl) (fun _ _ _ h => h) (Or.inl ⟨by kernel_rfl, ?_⟩) hHeld ?_
              rotate_left
              · intro wz hSw; go_simp; try (with_reducible rfl)
              try simp only [Act.put, List.setIfInBounds_toArray, List.set_cons_zero, List.set_cons_succ, List.getElem_toArray, List.getElem_cons_succ, List.getElem_cons_zero]
              refine take_at (some 118) (i := 6) (v := ?_) rfl rfl (by kernel_rfl) (by kernel_rfl) (by kernel_rfl) (fun _ _ _ h => h) (Or.inl ⟨by kernel_rfl, ?_⟩) hHeld ?_
              rotate_left
              · intro wz hSw; go_simp; try (with_reducible rfl)
              try simp only [Act.put, List.setIfInBounds_toArray, List.set_cons_zero, List.set_cons_succ, List.getElem_toArray, List.getElem_cons_succ, List.getElem_cons_zero]
              refine take_at (some 119) (i := 7) (v := ?_) rfl rfl (by kernel_rfl) (by kernel_rfl) (by kernel_rfl) (fun _ _ _ h => h) (Or.inl ⟨by kernel_rfl, ?_⟩) hHeld ?_
              rotate_left
              · intro wz hSw; go_simp; try (with_reducible rfl)
              try simp only [Act.put, List.setIfInBounds_toArray, List.set_cons_zero, List.set_cons_succ, List.getElem_toArray, List.getElem_cons_succ, List.getElem_cons_zero]
              refine take_at (some 120) (i := 8) (v := ?_) rfl rfl (by kernel_rfl) (by kernel_rfl) (by kernel_rfl) (fun _ _ _ h => h) (Or.inl ⟨by kernel_rfl, ?_⟩) hHeld ?_
              rotate_left
              · intro wz hSw; go_simp; try (with_reducible rfl)
              try simp only [Act.put, List.setIfInBounds_toArray, List.set_cons_zero, List.set_cons_succ, List.getElem_toArray, List.getElem_cons_succ, List.getElem_cons_zero]
              refine take_at (some 121) (i := 9) (v := ?_) rfl rfl (by kernel_rfl) (by kernel_rfl) (by kernel_rfl) (fun _ _ _ h => h) (Or.inl ⟨by kernel_rfl, ?_⟩) hHeld ?_
              rotate_left
              · intro wz hSw; go_simp; try (with_reducible rfl)
              try simp only [Act.put, List.setIfInBounds_toArray, List.set_cons_zero, List.set_cons_succ, List.getElem_toArray, List.getElem_cons_succ, List.getElem_cons_zero]
              refine take_at (some 123) (i := 11) (v := ?_) rfl rfl (by kernel_rfl) (by kernel_rfl) (by kernel_rfl) (fun _ _ _ h => h) (Or.inl ⟨by kernel_rfl, ?_⟩) hHeld ?_
              rotate_left
              · intro wz hSw; go_simp; try (with_reducible rfl)
              try simp only [Act.put, List.setIfInBounds_toArray, List.set_cons_zero, List.set_cons_succ, List.getElem_toArray, List.getElem_cons_succ, List.getElem_cons_zero]
              refine take_at (some 124) (i := 12) (v := ?_) rfl rfl (by kernel_rfl) (by kernel_rfl) (by kernel_rfl) (fun _ _ _ h => h) (Or.inl ⟨by kernel_rfl, ?_⟩) hHeld ?_
              rotate_left
              · intro wz hSw; go_simp; try (with_reducible rfl)
              try simp only [Act.put, List.setIfInBounds_toArray, List.set_cons_zero, List.set_cons_succ, List.getElem_toArray, List.getElem_cons_succ, List.getElem_cons_zero]
              refine take_at (some 125) (i := 13) (v := ?_) rfl rfl (by kernel_rfl) (by kernel_rfl) (by kernel_rfl) (fun _ _ _ h => h) (Or.inl ⟨by kernel_rfl, ?_⟩) hHeld ?_
              rotate_left
              · intro wz hSw; go_simp; try (with_reducible rfl)
              try simp only [Act.put, List.setIfInBounds_toArray, List.set_cons_zero, List.set_cons_succ, List.getElem_toArray, List.getElem_cons_succ, List.getElem_cons_zero]
              refine take_at (some 126) (i := 14) (v := ?_) rfl rfl (by kernel_rfl) (by kernel_rfl) (by kernel_rfl) (fun _ _ _ h => h) (Or.inl ⟨by kernel_rfl, ?_⟩) hHeld ?_
              rotate_left
              · intro wz hSw; have e0 : wz.cell? ⟨db, 0, none⟩ = some (.slice A6 M c6) := (HBK.out.below hSw HBK.out.lt).cell 0; go_simp; try (with_reducible rfl)
              try simp only [Act.put, List.setIfInBounds_toArray, List.set_cons_zero, List.set_cons_succ, List.getElem_toArray, List.getElem_cons_succ, List.getElem_cons_zero]
              refine take_at (some 127) (i := 15) (v := ?_) rfl rfl (by kernel_rfl) (by kernel_rfl) (by kernel_rfl) (fun _ _ _ h => h) (Or.inl ⟨by kernel_rfl, ?_⟩) hHeld ?_
              rotate_left
              · intro wz hSw; go_simp; try (with_reducible rfl)
              try simp only [Act.put, List.setIfInBounds_toArray, List.set_cons_zero, List.set_cons_succ, List.getElem_toArray, List.getElem_cons_succ, List.getElem_cons_zero]
              refine wpAnyH_ready (rs := [10]) (by kernel_rfl) (by simp) (AllReadyH.cons rfl (fun K hK => ?_) AllReadyH.nil)
              rw [if_pos (by kernel_rfl)]
              go_simp
              refine (w_qmany (HW6.out.l.on ((Below.refl u6.heap.size u6).drew)) M HMQ.out).mono ?_
              rintro e y1 ⟨rfl, hb1⟩
              try dsimp only
              refine hK.out _ _ (((Below.refl u6.heap.size u6).drew).trans (hb1.mono ((Below.refl u6.heap.size u6).drew).size)) (fun hHeld => ?_)
              try simp only [Act.put, List.setIfInBounds_toArray, List.set_cons_zero, List.set_cons_succ, List.getElem_toArray, List.getElem_cons_succ, List.getElem_cons_zero]
              refine take_at (some 128) (i := 16) (v := ?_) rfl rfl (by kernel_rfl) (by kernel_rfl) (by kernel_rfl) (fun _ _ _ h => h) (Or.inl ⟨by kernel_rfl, ?_⟩) hHeld ?_
              rotate_left
              · intro wz hSw; go_simp; try (with_reducible rfl)
              try simp only [Act.put, List.setIfInBounds_toArray, List.set_cons_zero, List.set_cons_succ, List.getElem_toArray, List.getElem_cons_succ, List.getElem_cons_zero]
              refine take_at (some 129) (i := 17) (v := ?_) rfl rfl (by kernel_rfl) (by kernel_rfl) (by kernel_rfl) (fun _ _ _ h => h) (Or.inl ⟨by kernel_rfl, ?_⟩) hHeld ?_
              rotate_left
              · intro wz hSw; go_simp; try (with_reducible rfl)
              try simp only [Act.put, List.setIfInBounds_toArray, List.set_cons_zero, List.set_cons_succ, List.getElem_toArray, List.getElem_cons_succ, List.getElem_cons_zero]
              refine take_at (some 130) (i := 18) (v := ?_) rfl rfl (by kernel_rfl) (by kernel_rfl) (by kernel_rfl) (fun _ _ _ h => h) (Or.inl ⟨by kernel_rfl, ?_⟩) hHeld ?_
              rotate_left
              · intro wz hSw; go_simp; try (with_reducible rfl)
              try simp only [Act.put, List.setIfInBounds_toArray, List.set_cons_zero, List.set_cons_succ, List.getElem_toArray, List.getElem_cons_succ, List.getElem_cons_zero]
              refine take_at (some 131) (i := 19) (v := ?_) rfl rfl (by kernel_rfl) (by kernel_rfl) (by kernel_rfl) (fun _ _ _ h => h) (Or.inl ⟨by kernel_rfl, ?_⟩) hHeld ?_
              rotate_left
              · intro wz hSw; go_simp; try (with_reducible rfl)
              try simp only [Act.put, List.setIfInBounds_toArray, List.set_cons_zero, List.set_cons_succ, List.getElem_toArray, List.getElem_cons_succ, List.getElem_cons_zero]
              refine take_at (some 132) (i := 20) (v := ?_) rfl rfl (by kernel_rfl) (by kernel_rfl) (by kernel_rfl) (fun _ _ _ h => h) (Or.inl ⟨by kernel_rfl, ?_⟩) hHeld ?_
              rotate_left
              · intro wz hSw; go_simp; try (with_reducible rfl)
              try simp only [Act.put, List.setIfInBounds_toArray, List.set_cons_zero, List.set_cons_succ, List.getElem_toArray, List.getElem_cons_succ, List.getElem_cons_zero]
              refine take_at (some 133) (i := 21) (v := ?_) rfl rfl (by kernel_rfl) (by kernel_rfl) (by kernel_rfl) (fun _ _ _ h => h) (Or.inl ⟨by kernel_rfl, ?_⟩) hHeld ?_
              rotate_left
              · intro wz hSw; have e1 : wz.cell? ⟨kb, 1, none⟩ = some (.string on) := (HB6.out.b.below hSw HB6.out.b.lt).cell 1; go_simp; try (with_reducible rfl)
              try simp only [Act.put, List.setIfInBounds_toArray, List.set_cons_zero, List.set_cons_succ, List.getElem_toArray, List.getElem_cons_succ, List.getElem_cons_zero]
              refine take_at (some 135) (i := 23) (v := ?_) rfl rfl (by kernel_rfl) (by kernel_rfl) (by kernel_rfl) (fun _ _ _ h => h) (Or.inl ⟨by kernel_rfl, ?_⟩) hHeld ?_
              rotate_left
              · intro wz hSw; go_simp; try (with_reducible rfl)
              try simp only [Act.put, List.setIfInBounds_toArray, List.set_cons_zero, List.set_cons_succ, List.getElem_toArray, List.getElem_cons_succ, List.getElem_cons_zero]
              refine take_at (some 136) (i := 24) (v := ?_) rfl rfl (by kernel_rfl) (by kernel_rfl) (by kernel_rfl) (fun _ _ _ h => h) (Or.inl ⟨by kernel_rfl, ?_⟩) hHeld ?_
              rotate_left
              · intro wz hSw; go_simp; try (with_reducible rfl)
              try simp only [Act.put, List.setIfInBounds_toArray, List.set_cons_zero, List.set_cons_succ, List.getElem_toArray, List.getElem_cons_succ, List.getElem_cons_zero]
              refine take_at (some 137) (i := 25) (v := ?_) rfl rfl (by kernel_rfl) (by kernel_rfl) (by kernel_rfl) (fun _ _ _ h => h) (Or.inl ⟨by kernel_rfl, ?_⟩) hHeld ?_
              rotate_left
              · intro wz hSw; have e1 : wz.cell? ⟨kb, 1, none⟩ = some (.string on) := (HB6.out.b.below hSw HB6.out.b.lt).cell 1; go_simp; try (with_reducible rfl)
              try simp only [Act.put, List.setIfInBounds_toArray, List.set_cons_zero, List.set_cons_succ, List.getElem_toArray, List.getElem_cons_succ, List.getElem_cons_zero]
              refine wpAnyH_ready (rs := [22]) (by kernel_rfl) (by simp) (AllReadyH.cons rfl (fun K hK => ?_) AllReadyH.nil)
              rw [if_pos (by kernel_rfl)]
              go_simp
              refine (w_qlist (HW6.out.l.on (((Below.refl u6.heap.size u6).drew).trans (hb1.mono ((Below.refl u6.heap.size u6).drew).size))) on HSZ.out L m HLQ.out).mono ?_
              rintro e y2 ⟨A2, c2, rfl, ho2, hb2⟩
              try dsimp only
              refine hK.out _ _ ((((Below.refl u6.heap.size u6).drew).trans (hb1.mono ((Below.refl u6.heap.size u6).drew).size)).trans (hb2.mono (((Below.refl u6.heap.size u6).drew).trans (hb1.mono ((Below.refl u6.heap.size u6).drew).size)).size)) (fun hHeld => ?_)
              try simp only [Act.put, List.setIfInBounds_toArray, List.set_cons_zero, List.set_cons_succ, List.getElem_toArray, List.getElem_cons_succ, List.getElem_cons_zero]
              refine wpAnyH_ready (rs := [26]) (by kernel_rfl) (by simp) (AllReadyH.cons rfl (fun K hK => ?_) AllReadyH.nil)
              rw [if_pos (by kernel_rfl)]
              go_simp
              refine (d_list (HW6.out.r.on ((((Below.refl u6.heap.size u6).drew).trans (hb1.mono ((Below.refl u6.heap.size u6).drew).size)).trans (hb2.mono (((Below.refl u6.heap.size u6).drew).trans (hb1.mono ((Below.refl u6.heap.size u6).drew).size)).size))) on L m HLQ.out HF2.out).mono ?_
              rintro e y3 ⟨A3, c3, rfl, ho3, hb3⟩
              try dsimp only
              refine hK.out _ _ (((((Below.refl u6.heap.size u6).drew).trans (hb1.mono ((Below.refl u6.heap.size u6).drew).size)).trans (hb2.mono (((Below.refl u6.heap.size u6).drew).trans (hb1.mono ((Below.refl u6.heap.size u6).drew).size)).size)).trans (hb3.mono ((((Below.refl u6.heap.size u6).drew).trans (hb1.mono ((Below.refl u6.heap.size u6).drew).size)).trans (hb2.mono (((Below.refl u6.heap.size u6).drew).trans (hb1.mono ((Below.refl u6.heap.size u6).drew).size)).size)).size)) (fun hHeld => ?_)
              try simp only [Act.put, List.setIfInBounds_toArray, List.set_cons_zero, List.set_cons_succ, List.getElem_toArray, List.getElem_cons_succ, List.getElem_cons_zero]
              refine wpAnyH_ready (rs := [27]) (by kernel_rfl) (by simp) (AllReadyH.cons rfl (fun K hK => ?_) AllReadyH.nil)
              rw [if_pos (by kernel_rfl)]
              go_simp
              refine (same_b A2 A3 c2 c3 L [] [] y3 m HLQ.out.2 ((ho2.ri (K := []) (fun _ hx => by cases hx)).below hb3 (Nat.le_refl _)) (ho3.ri (K := []) (fun _ hx => by cases hx)) (by omega)).mono ?_
              rintro e y4 ⟨rfl, hk4⟩
              try dsimp only
              refine hK.out _ _ ((((((Below.refl u6.heap.size u6).drew).trans (hb1.mono ((Below.refl u6.heap.size u6).drew).size)).trans (hb2.mono (((Below.refl u6.heap.size u6).drew).trans (hb1.mono ((Below.refl u6.heap.size u6).drew).size)).size)).trans (hb3.mono ((((Below.refl u6.heap.size u6).drew).trans (hb1.mono ((Below.refl u6.heap.size u6).drew).size)).trans (hb2.mono (((Below.refl u6.heap.size u6).drew).trans (hb1.mono ((Below.refl u6.heap.size u6).drew).size)).size)).size)).trans (hk4.b0.mono (((((Below.refl u6.heap.size u6).drew).trans (hb1.mono ((Below.refl u6.heap.size u6).drew).size)).trans (hb2.mono (((Below.refl u6.heap.size u6).drew).trans (hb1.mono ((Below.refl u6.heap.size u6).drew).size)).size)).trans (hb3.mono ((((Below.refl u6.heap.size u6).drew).trans (hb1.mono ((Below.refl u6.heap.size u6).drew).size)).trans (hb2.mono (((Below.refl u6.heap.size u6).drew).trans (hb1.mono ((Below.refl u6.heap.size u6).drew).size)).size)).size)).size)) (fun hHeld => ?_)
              try simp only [Act.put, List.setIfInBounds_toArray, List.set_cons_zero, List.set_cons_succ, List.getElem_toArray, List.getElem_cons_succ, List.getElem_cons_zero]
              refine take_at (some 140) (i := 28) (v := ?_) rfl rfl (by kernel_rfl) (by kernel_rfl) (by kernel_rfl) (fun _ _ _ h => h) (Or.inl ⟨by kernel_rfl, ?_⟩) hHeld ?_
              rotate_left
              · intro wz hSw; go_simp; try (with_reducible rfl)
              try simp only [Act.put, List.setIfInBounds_toArray, List.set_cons_zero, List.set_cons_succ, List.getElem_toArray, List.getElem_cons_succ, List.getElem_cons_zero]
              refine take_at (some 141) (i := 29) (v := ?_) rfl rfl (by kernel_rfl) (by kernel_rfl) (by kernel_rfl) (fun _ _ _ h => h) (Or.inl ⟨by kernel_rfl, ?_⟩) hHeld ?_
              rotate_left
              · intro wz hSw; go_simp; try (with_reducible rfl)
              try simp only [Act.put, List.setIfInBounds_toArray, List.set_cons_zero, List.set_cons_succ, List.getElem_toArray, List.getElem_cons_succ, List.getElem_cons_zero]
              refine wpAnyH_done (by kernel_rfl) ?_ _
              refine gen_qu (fun y => WD W y G5 qb q2 H6 db q2) (HW6.out.on ((((((Below.refl u6.heap.size u6).drew).trans (hb1.mono ((Below.refl u6.heap.size u6).drew).size)).trans (hb2.mono (((Below.refl u6.heap.size u6).drew).trans (hb1.mono ((Below.refl u6.heap.size u6).drew).size)).size)).trans (hb3.mono ((((Below.refl u6.heap.size u6).drew).trans (hb1.mono ((Below.refl u6.heap.size u6).drew).size)).trans (hb2.mono (((Below.refl u6.heap.size u6).drew).trans (hb1.mono ((Below.refl u6.heap.size u6).drew).size)).size)).size)).trans (hk4.b0.mono (((((Below.refl u6.heap.size u6).drew).trans (hb1.mono ((Below.refl u6.heap.size u6).drew).size)).trans (hb2.mono (((Below.refl u6.heap.size u6).drew).trans (hb1.mono ((Below.refl u6.heap.size u6).drew).size)).size)).trans (hb3.mono ((((Below.refl u6.heap.size u6).drew).trans (hb1.mono ((Below.refl u6.heap.size u6).drew).size)).trans (hb2.mono (((Below.refl u6.heap.size u6).drew).trans (hb1.mono ((Below.refl u6.heap.size u6).drew).size)).size)).size)).size))) (fun y hy => ?_)
              have HWY := Lib.hid hy
              clear hy hHeld ho2 ho3 hb1 hb2 hb3 hk4
              go_wp2_with fail
              go_roundw
              case rel => exact ⟨i + 1, G5, H6, q2, by omega, by go_num, HWY⟩
              case measure => simp [intOf]; omega
      · have hi2 : ¬ (i : Int) < (n : Int) := by omega
        go_wp2_with fail
        go_ret
        exact ⟨rfl, HW.out.l.l⟩
end Go.Proofs.Ytikkiifcnjiegaa
