/- QueueWhere: who was put, and did not go, waits for its name: the walk. (Written by gen_quwh.py.) -/
import Derived.Test.YtikkiifcnjiegaaG14
namespace Go.Proofs.Ytikkiifcnjiegaa
set_option linter.unusedVariables false
set_option maxRecDepth 100000
set_option linter.unusedSimpArgs false
open Go.RowKit

theorem rm_map {β : Type} (f : Qn → β) {q : List Qn} {id : Int} {k : Nat} {x : Qn} (h : q[k]? = some x) (hx : x.id = id) : ((rmQ q id (k + 1)).map f).take k ++ ((rmQ q id (k + 1)).map f).drop (k + 1) = (rmQ q id k).map f := by
  rw [rm_step h, if_pos hx, List.map_append, List.map_take, List.map_drop]

set_option maxRecDepth 100000 in
set_option maxHeartbeats 16000000 in
theorem walk_QueueWhere (A : Option Addr) (l : List Qo) (c : Nat) (W : World) (h : InQo W A l c) :
    Calls Try.prog 7 #[.slice A l.length c] W fun e w' => e = .returned (.bool true) ∧ Below W.heap.size W w' := by
  have HI := Lib.hid h
  have HHD := Lib.hid (fun u => qhead_ok u)
  have HNEW := Lib.hid (fun u (hb : Below W.heap.size W u) => w_qnew (W := W) (u := u) hb)
  have HGR := Lib.hid (fun u (hb : Below W.heap.size W u) => qgreat_ok A l c u (h.on hb))
  obtain ⟨gr, hgr⟩ : ∃ gr, grQ l = gr := ⟨_, rfl⟩
  have HGB := Lib.hid hgr
  simp only [hgr] at HGR
  obtain ⟨n, hn⟩ : ∃ n, l.length = n := ⟨_, rfl⟩
  have HN := Lib.hid hn
  rw [hn] at HGR ⊢
  clear h hgr hn
  cases gr with
  | true =>
    go_enter Try.func7, Try.ntmps7
    go_wp2_with (first | (go_at_call 9; (with_reducible refine (HHD.out _).mono ?_); rintro e u1 ⟨rfl, hb⟩; have HB1 := Lib.hid hb; clear hb) | (go_at_call 10; (with_reducible refine (HNEW.out _ HB1.out).mono ?_); rintro e u2 ⟨G, qb, rfl, h1, -, -⟩; have HL2 := Lib.hid h1; clear h1) | (go_at_call 12; (with_reducible refine (HGR.out _ HL2.out.l).mono ?_); rintro e u3 ⟨rfl, hb⟩; have HL3 := Lib.hid (HL2.out.on hb); clear hb))
    go_ret
    exact ⟨rfl, HL3.out.l⟩
  | false =>
    have hfew : n ≤ 400 := by rw [← HN.out]; exact grQ_few HGB.out
    go_enter Try.func7, Try.ntmps7
    go_wp2_with (first | (go_at_call 9; (with_reducible refine (HHD.out _).mono ?_); rintro e u1 ⟨rfl, hb⟩; have HB1 := Lib.hid hb; clear hb) | (go_at_call 10; (with_reducible refine (HNEW.out _ HB1.out).mono ?_); rintro e u2 ⟨G, qb, rfl, h1, -, -⟩; have HL2 := Lib.hid h1; clear h1) | (go_at_call 12; (with_reducible refine (HGR.out _ HL2.out.l).mono ?_); rintro e u3 ⟨rfl, hb⟩; have HL3 := Lib.hid (HL2.out.on hb); clear hb))
    go_loopw [5, 6, 7] (fun v5 v6 v7 wr => ∃ (i m : Nat) (G : List Nat) (q : List Qn) (Ai An : Option Addr) (ci cn : Nat), i ≤ n ∧ v5 = .slice Ai m ci ∧ v6 = .slice An m cn ∧ v7 = .int .i64 (i : Int) ∧ Hid (Wq W wr G qb q) ∧ Hid (q.length = m) ∧ Hid (Lr 3 qiv W wr G Ai ci (q.map (·.id))) ∧ Hid (Lr 9 qsv W wr G An cn (q.map (·.nm)))) (fun v5 v6 v7 _ => n - (intOf v7).toNat)
    case atStart => exact ⟨0, 0, G, [], none, none, 0, 0, by omega, rfl, rfl, rfl, HL3, Lib.hid rfl, Lib.hid (Lr.nil _ _ _), Lib.hid (Lr.nil _ _ _)⟩
    case round =>
      obtain ⟨i, m, G1, q, Ai, An, ci, cn, hi, rfl, rfl, rfl, HL, HM, HX, HY⟩ := hrel
      have hm64 : m ≤ 64 := by rw [← HM.out]; exact HL.out.ok.few
      by_cases hi1 : i < n
      · have hi2 : (i : Int) < (n : Int) := by omega
        obtain ⟨bx, o, ox, rfl, hx, hsm, hc⟩ := HI.out.at3 i (by rw [HN.out]; exact hi1)
        have HC := Lib.hid hc
        obtain ⟨ow, on, oi⟩ := ox
        have HSZ := Lib.hid (show on.size ≤ 140737488355328 from hsm.1)
        have HWF := Lib.hid (show WfI oi from hsm.2)
        clear hx hsm hc
        dsimp only at HC
        obtain ⟨d0, d1, d2⟩ := HC.out wr (HL.out.l)
        go_upto_region 11 with fail
        have HXv0 := Lib.hid (HX.out.on ((Below.refl _ _).alloc (Nat.le_refl _) (.cells #[.int .i64 ow, .string on, .int .i64 oi] 30)))
        have HYv0 := Lib.hid (HY.out.on ((Below.refl _ _).alloc (Nat.le_refl _) (.cells #[.int .i64 ow, .string on, .int .i64 oi] 30)))
        obtain ⟨kb, hkb⟩ : ∃ kb, wr.heap.size = kb := ⟨_, rfl⟩
        obtain ⟨v, hv⟩ : ∃ v, wr.alloc (.cells #[.int .i64 ow, .string on, .int .i64 oi] 30) = v := ⟨_, rfl⟩
        have HB := Lib.hid (show Bz v G1 kb 30 #[.int .i64 ow, .string on, .int .i64 oi] by rw [← hv, ← hkb]; exact Bz.new HL.out.hi _ _)
        have HLv := Lib.hid (show Wq W v G1 qb q by rw [← hv]; exact HL.out.on ((Below.refl _ _).alloc (Nat.le_refl _) _))
        have HXv := Lib.hid (show Lr 3 qiv W v G1 Ai ci (q.map (·.id)) by rw [← hv]; exact HXv0.out)
        have HYv := Lib.hid (show Lr 9 qsv W v G1 An cn (q.map (·.nm)) by rw [← hv]; exact HYv0.out)
        try dsimp only
        rw [hv]
        try rw [hkb]
        clear hv hkb d0 d1 d2
        have e0 : v.cell? ⟨kb, 0, none⟩ = some (.int .i64 ow) := HB.out.b.cell 0
        have e1 : v.cell? ⟨kb, 1, none⟩ = some (.string on) := HB.out.b.cell 1
        have e2 : v.cell? ⟨kb, 2, none⟩ = some (.int .i64 oi) := HB.out.b.cell 2
        have HMI := Lib.hid (show (q.map (·.id)).length = m by rw [List.length_map, HM.out])
        have HMN := Lib.hid (show (q.map (·.nm)).length = m by rw [List.length_map, HM.out])
        by_cases h3 : ow = 3
        · have h3b : (ow == 3) = true := by simp [h3]
          cases hl : liQ q on with
          | nil =>
            have HT := Lib.hid (tk_no hl)
            clear hl
            go_upto_region 15 with (go_at_call 13; (with_reducible refine (w_qtake HLv.out on HSZ.out 0 false q HT.out).mono ?_); rintro e u6 ⟨rfl, h1, h2⟩; have HL6 := Lib.hid h1; have HB6 := Lib.hid (HB.out.step h2); have HX6 := Lib.hid (HXv.out.step h2); have HY6 := Lib.hid (HYv.out.step h2); clear h1 h2)
            clear e0 e1 e2
            have e0 : u6.cell? ⟨kb, 0, none⟩ = some (.int .i64 ow) := HB6.out.b.cell 0
            have e1 : u6.cell? ⟨kb, 1, none⟩ = some (.string on) := HB6.out.b.cell 1
            have e2 : u6.cell? ⟨kb, 2, none⟩ = some (.int .i64 oi) := HB6.out.b.cell 2
            have hw1 : IntKind.i64.wrap ((m : Int) - 1) = (m : Int) - 1 := by rw [IntKind.wrap_i64]; omega
            have HMX := Lib.hid (show q.length = m from HM.out)
            go_wp2_with fail
            refine wp_loop_rounds 1 ?_
            rw [rounds_succ]
            go_wp2_with (go_at_call 21; (with_reducible refine (w_qmany HL6.out m HMX.out).mono ?_); rintro e uc ⟨rfl, h1⟩; have HLc := Lib.hid (HL6.out.on h1); have HXc := Lib.hid (HX6.out.on h1); have HYc := Lib.hid (HY6.out.on h1); clear h1)
            go_roundw
            case rel => exact ⟨i + 1, m, G1, q, _, _, _, _, by omega, by first | rfl | go_num, by first | rfl | go_num, by go_num, HLc, HMX, HXc, HYc⟩
            case measure => simp [intOf]; omega
          | cons a r =>
            have HT := Lib.hid (tk_first hl)
            clear hl
            go_upto_region 15 with (go_at_call 13; (with_reducible refine (w_qtake HLv.out on HSZ.out a true (outQ q a) HT.out).mono ?_); rintro e u6 ⟨rfl, h1, h2⟩; have HL6 := Lib.hid h1; have HB6 := Lib.hid (HB.out.step h2); have HX6 := Lib.hid (HXv.out.step h2); have HY6 := Lib.hid (HYv.out.step h2); clear h1 h2)
            clear e0 e1 e2
            have e0 : u6.cell? ⟨kb, 0, none⟩ = some (.int .i64 ow) := HB6.out.b.cell 0
            have e1 : u6.cell? ⟨kb, 1, none⟩ = some (.string on) := HB6.out.b.cell 1
            have e2 : u6.cell? ⟨kb, 2, none⟩ = some (.int .i64 oi) := HB6.out.b.cell 2
            obtain ⟨q2, hq2⟩ : ∃ q2, outQ q a = q2 := ⟨_, rfl⟩
            have HQ2 := Lib.hid hq2
            rw [hq2] at HL6
            clear hq2
            have hw1 : IntKind.i64.wrap ((m : Int) - 1) = (m : Int) - 1 := by rw [IntKind.wrap_i64]; omega
            go_wp2_with fail
            clear e0 e1 e2
            go_loopw [5, 6, 13] (fun v5 v6 v13 wr => ∃ (z : Int) (k nn : Nat) (Ai An : Option Addr) (ci cn : Nat), k ≤ m ∧ v5 = .slice Ai nn ci ∧ v6 = .slice An nn cn ∧ v13 = .int .i64 z ∧ z = (k : Int) - 1 ∧ Hid ((rmQ q a k).length = nn) ∧ Hid (Lr 3 qiv W wr G1 Ai ci ((rmQ q a k).map (·.id))) ∧ Hid (Lr 9 qsv W wr G1 An cn ((rmQ q a k).map (·.nm))) ∧ Hid (Wq W wr G1 qb q2)) (fun v5 v6 v13 _ => (intOf v13 + 1).toNat)
            case atStart => exact ⟨_, m, m, Ai, An, ci, cn, Nat.le_refl _, rfl, rfl, rfl, rfl, Lib.hid (by rw [rm_all q a (Nat.le_of_eq HM.out)]; exact HM.out), Lib.hid (by rw [rm_all q a (Nat.le_of_eq HM.out)]; exact HX6.out), Lib.hid (by rw [rm_all q a (Nat.le_of_eq HM.out)]; exact HY6.out), HL6⟩
            case round =>
              obtain ⟨z, k, nn, Bi, Bn, di, dn, hk, rfl, rfl, rfl, hz, HNN, HXr, HYr, HLr⟩ := hrel
              by_cases hk0 : k = 0
              · subst hk0
                have hz1 : ¬ (z ≥ 0) := by omega
                have hz2 : decide (z ≥ 0) = false := decide_eq_false hz1
                have hz3 : decide ((0 : Int) ≤ z) = false := decide_eq_false (by omega)
                clear hz
                have HE2 := Lib.hid (show rmQ q a 0 = q2 from HQ2.out)
                rw [HE2.out] at HNN HXr HYr
                go_wp2_with (go_at_call 21; (with_reducible refine (w_qmany HLr.out nn HNN.out).mono ?_); rintro e uc ⟨rfl, h1⟩; have HLc := Lib.hid (HLr.out.on h1); have HXc := Lib.hid (HXr.out.on h1); have HYc := Lib.hid (HYr.out.on h1); clear h1)
                go_roundw
                case rel => exact ⟨i + 1, nn, G1, q2, Bi, Bn, di, dn, by omega, by first | rfl | go_num, by first | rfl | go_num, by go_num, HLc, HNN, HXc, HYc⟩
                case measure => simp [intOf]; omega
              · obtain ⟨j, rfl⟩ : ∃ j, k = j + 1 := ⟨k - 1, by omega⟩
                obtain rfl : z = (j : Int) := by omega
                obtain ⟨x, hx⟩ : ∃ x, q[j]? = some x := ⟨_, List.getElem?_eq_getElem (by rw [HM.out]; omega)⟩
                have hxr := rm_at (id := a) hx
                have hjn : j < nn := by have := (List.getElem?_eq_some_iff.1 hxr).1; rw [HNN.out] at this; exact this
                have hj2 : (j : Int) < (nn : Int) := by omega
                have hj3 : (j : Int) ≥ 0 := by omega
                have hnn64 : nn ≤ 64 := by
                  rw [← HNN.out]
                  unfold rmQ
                  have h1 := List.length_filter_le (fun x => x.id != a) (q.drop (j + 1))
                  have h2 := HM.out
                  rw [List.length_append, List.length_take]
                  rw [List.length_drop] at h1
                  omega
                have hw2 : IntKind.i64.wrap ((j : Int) - 1) = (j : Int) - 1 := by rw [IntKind.wrap_i64]; omega
                obtain ⟨b5, o5, y5, rfl, hy5, hc5⟩ := (HXr.out.rw_ (fun _ => rfl)).one j (by rw [List.length_map, HNN.out]; exact hjn)
                obtain ⟨b6, o6, y6, rfl, hy6, hc6⟩ := (HYr.out.rw_ (fun _ => rfl)).one j (by rw [List.length_map, HNN.out]; exact hjn)
                have e5 : y5 = x.id := by rw [List.getElem?_map, hxr] at hy5; injection hy5 with hy5; exact hy5.symm
                subst e5
                have c5a : wr.cell? ⟨b5, o5 + j, none⟩ = some (.int .i64 x.id) := hc5 wr (Below.refl _ _)
                have HXJ := Lib.hid hx
                clear hy5 hc5 hy6 hc6 hxr hx hk0 hz
                by_cases hg : x.id = a
                · have hgb : (x.id == a) = true := by simp [hg]
                  have HXG := Lib.hid hg
                  obtain ⟨j1, hj1⟩ : ∃ j1, j + 1 = j1 := ⟨_, rfl⟩
                  have HJ1 := Lib.hid hj1
                  have hw3 : IntKind.i64.wrap ((j : Int) + 1) = (j1 : Int) := (iwrap _ j1 (by omega) (by omega)).1
                  obtain ⟨n2, hn2⟩ : ∃ n2, j + (nn - j1) = n2 := ⟨_, rfl⟩
                  have HN2 := Lib.hid (show (rmQ q a j).length = n2 by
                    have h1 := rm_step HXJ.out (id := a)
                    rw [if_pos HXG.out] at h1
                    rw [h1, List.length_append, List.length_take, List.length_drop, HNN.out]
                    omega)
                  go_upto_region 27 with fail
                  clear c5a
                  have HFi := Lib.hid (show Rw 1 qiv wr (some ⟨b5, o5, none⟩) ((rmQ q a (j + 1)).map (fun x : Qn => x.id)) from HXr.out.rw_ (fun _ => rfl))
                  have HCPi : nn ≤ di := by have := (HXr.out.o.fit).cap; rw [List.length_map, HNN.out] at this; exact this
                  have HS1i := Lib.hid (fun w => islice_to (some ⟨b5, o5, none⟩) nn di j (by omega) HCPi w)
                  have HS2i := Lib.hid (show ∀ w, _ from fun w => islice_from (some ⟨b5, o5, none⟩) nn di j1 (by omega) HCPi w)
                  have HTNi := Lib.hid (show tailA (some ⟨b5, o5, none⟩) di j1 = none → nn - j1 = 0 ∧ di - j1 = 0 from fun e => by have := tailA_none _ _ _ e; cases this)
                  have HTTi := Lib.hid (show Rw 1 qiv wr (tailA (some ⟨b5, o5, none⟩) di j1) (((rmQ q a (j + 1)).map (fun x : Qn => x.id)).drop j1) from HFi.out.tail j1 (by rw [List.length_map, HNN.out]; exact HCPi))
                  have HEi := Lib.hid (show Ow 3 1 qiv (wr.alloc (.cells #[] 3)).drew wr.heap.size (some ⟨wr.heap.size, 0, none⟩) 0 [] from Ow.made wr)
                  have HBAi := Lib.hid (show Below wr.heap.size wr (wr.alloc (.cells #[] 3)).drew from ((Below.refl _ _).alloc (Nat.le_refl _) _).drew)
                  have HL1i := Lib.hid (show (((rmQ q a (j + 1)).map (fun x : Qn => x.id)).take j).length = j by rw [List.length_take, List.length_map, HNN.out]; omega)
                  have HL2i := Lib.hid (show (((rmQ q a (j + 1)).map (fun x : Qn => x.id)).drop j1).length = nn - j1 by rw [List.length_drop, List.length_map, HNN.out])
                  try simp only [List.cons_append, List.nil_append]
                  refine wp_region_held_drew (S := fun wz => Below wr.heap.size wr wz) (by kernel_rfl) ((Below.refl _ _).drew) (fun hHeld => ?_)
                  refine take_at (some 95) (i := 1) (v := ?_) rfl rfl (by kernel_rfl) (by kernel_rfl) (by kernel_rfl) (fun _ _ _ h => h) (Or.inl ⟨by kernel_rfl, ?_⟩) hHeld ?_
                  rotate_left
                  · intro wz hSw; go_simp; try (with_reducible rfl)
                  try simp only [Act.put, List.setIfInBounds_toArray, List.set_cons_zero, List.set_cons_succ, List.getElem_toArray, List.getElem_cons_succ, List.getElem_cons_zero]
                  refine take_at (some 96) (i := 2) (v := ?_) rfl rfl (by kernel_rfl) (by kernel_rfl) (by kernel_rfl) (fun _ _ _ h => h) (Or.inl ⟨by kernel_rfl, ?_⟩) hHeld ?_
                  rotate_left
                  · intro wz hSw; go_simp; try (with_reducible rfl)
                  try simp only [Act.put, List.setIfInBounds_toArray, List.set_cons_zero, List.set_cons_succ, List.getElem_toArray, List.getElem_cons_succ, List.getElem_cons_zero]
                  refine take_at (some 97) (i := 3) rfl rfl (by kernel_rfl) (by kernel_rfl) (by kernel_rfl) (fun _ _ _ h => h) (yieldsIf_slice (by kernel_rfl) 43 (.tmp 95) none (some (.tmp 96)) rfl (.slice (some ⟨b5, o5, none⟩) j di) (fun w => HS1i.out w)) hHeld ?_
                  try simp only [Act.put, List.setIfInBounds_toArray, List.set_cons_zero, List.set_cons_succ, List.getElem_toArray, List.getElem_cons_succ, List.getElem_cons_zero]
                  refine take_at (some 99) (i := 5) (v := ?_) rfl rfl (by kernel_rfl) (by kernel_rfl) (by kernel_rfl) (fun _ _ _ h => h) (Or.inl ⟨by kernel_rfl, ?_⟩) hHeld ?_
                  rotate_left
                  · intro wz hSw; go_simp; try (with_reducible rfl)
                  try simp only [Act.put, List.setIfInBounds_toArray, List.set_cons_zero, List.set_cons_succ, List.getElem_toArray, List.getElem_cons_succ, List.getElem_cons_zero]
                  refine take_at (some 100) (i := 6) (v := ?_) rfl rfl (by kernel_rfl) (by kernel_rfl) (by kernel_rfl) (fun _ _ _ h => h) (Or.inl ⟨by kernel_rfl, ?_⟩) hHeld ?_
                  rotate_left
                  · intro wz hSw; go_simp; try (with_reducible rfl)
                  try simp only [Act.put, List.setIfInBounds_toArray, List.set_cons_zero, List.set_cons_succ, List.getElem_toArray, List.getElem_cons_succ, List.getElem_cons_zero]
                  refine take_at (some 101) (i := 7) (v := ?_) rfl rfl (by kernel_rfl) (by kernel_rfl) (by kernel_rfl) (fun _ _ _ h => h) (Or.inl ⟨by kernel_rfl, ?_⟩) hHeld ?_
                  rotate_left
                  · intro wz hSw; go_simp; try (with_reducible rfl)
                  try simp only [Act.put, List.setIfInBounds_toArray, List.set_cons_zero, List.set_cons_succ, List.getElem_toArray, List.getElem_cons_succ, List.getElem_cons_zero]
                  refine take_at (some 102) (i := 8) rfl rfl (by kernel_rfl) (by kernel_rfl) (by kernel_rfl) (fun _ _ _ h => h) (yieldsIf_slice (by kernel_rfl) 43 (.tmp 99) (some (.tmp 101)) none rfl (.slice (tailA (some ⟨b5, o5, none⟩) di j1) (nn - j1) (di - j1)) (fun w => HS2i.out w)) hHeld ?_
                  try simp only [Act.put, List.setIfInBounds_toArray, List.set_cons_zero, List.set_cons_succ, List.getElem_toArray, List.getElem_cons_succ, List.getElem_cons_zero]
                  refine wpAnyH_ready (rs := [0]) (by kernel_rfl) (by simp) (AllReadyH.cons rfl (fun K hK => ?_) AllReadyH.nil)
                  rw [if_pos (by kernel_rfl)]
                  go_simp
                  refine hK.out _ _ HBAi.out (fun hHeld => ?_)
                  try simp only [Act.put, List.setIfInBounds_toArray, List.set_cons_zero, List.set_cons_succ, List.getElem_toArray, List.getElem_cons_succ, List.getElem_cons_zero]
                  refine wpAnyH_ready (rs := [4]) (by kernel_rfl) (by simp) (AllReadyH.cons rfl (fun K hK => ?_) AllReadyH.nil)
                  rw [if_pos (by kernel_rfl)]
                  refine op_rows roI (.tmp 94) (.tmp 97) rfl 0 rfl rfl HEi.out (((rmQ q a (j + 1)).map (fun x : Qn => x.id)).take j) (some ⟨b5, o5, none⟩) j di rfl HL1i.out (fun h => by cases h) ((HFi.out.front j).on HBAi.out) (by omega) HBAi.out.size j (by omega) ?_
                  intro A8i c8i w8i ho8 hg8 hb8
                  rw [List.nil_append] at ho8
                  have HO8i := Lib.hid ho8
                  have HB8i := Lib.hid (HBAi.out.trans hb8)
                  clear ho8 hg8 hb8
                  refine hK.out _ _ HB8i.out (fun hHeld => ?_)
                  try simp only [Act.put, List.setIfInBounds_toArray, List.set_cons_zero, List.set_cons_succ, List.getElem_toArray, List.getElem_cons_succ, List.getElem_cons_zero]
                  refine wpAnyH_ready (rs := [9]) (by kernel_rfl) (by simp) (AllReadyH.cons rfl (fun K hK => ?_) AllReadyH.nil)
                  rw [if_pos (by kernel_rfl)]
                  refine op_rows roI (.tmp 98) (.tmp 102) rfl j rfl HL1i.out HO8i.out (((rmQ q a (j + 1)).map (fun x : Qn => x.id)).drop j1) (tailA (some ⟨b5, o5, none⟩) di j1) (nn - j1) (di - j1) rfl HL2i.out HTNi.out (HTTi.out.on HB8i.out) (by omega) HB8i.out.size n2 (by omega) ?_
                  intro A9i c9i w9i ho9 hg9 hb9
                  rw [← HJ1.out, rm_map (fun x : Qn => x.id) HXJ.out HXG.out] at ho9
                  have HO9i := Lib.hid ho9
                  have HB9i := Lib.hid (HB8i.out.trans hb9)
                  clear ho9 hg9 hb9
                  refine hK.out _ _ HB9i.out (fun hHeld => ?_)
                  try simp only [Act.put, List.setIfInBounds_toArray, List.set_cons_zero, List.set_cons_succ, List.getElem_toArray, List.getElem_cons_succ, List.getElem_cons_zero]
                  refine take_at (some 5) (i := 10) (v := ?_) rfl rfl (by kernel_rfl) (by kernel_rfl) (by kernel_rfl) (fun _ _ _ h => h) (Or.inl ⟨by kernel_rfl, ?_⟩) hHeld ?_
                  rotate_left
                  · intro wz hSw; go_simp; try (with_reducible rfl)
                  try simp only [Act.put, List.setIfInBounds_toArray, List.set_cons_zero, List.set_cons_succ, List.getElem_toArray, List.getElem_cons_succ, List.getElem_cons_zero]
                  refine wpAnyH_done (by kernel_rfl) ?_ _
                  have HYs := Lib.hid (HYr.out.on HB9i.out)
                  have HLs := Lib.hid (HLr.out.on HB9i.out)
                  have HXs := Lib.hid (show Lr 3 qiv W w9i G1 A9i c9i ((rmQ q a j).map (·.id)) from Lr.of HO9i.out HLr.out.l.size HLr.out.hi)
                  go_upto_region 28 with fail
                  have HFs := Lib.hid (show Rw 1 qsv w9i (some ⟨b6, o6, none⟩) ((rmQ q a (j + 1)).map (fun x : Qn => x.nm)) from HYs.out.rw_ (fun _ => rfl))
                  have HCPs : nn ≤ dn := by have := (HYs.out.o.fit).cap; rw [List.length_map, HNN.out] at this; exact this
                  have HS1s := Lib.hid (fun w => sslice_to (some ⟨b6, o6, none⟩) nn dn j (by omega) HCPs w)
                  have HS2s := Lib.hid (show ∀ w, _ from fun w => sslice_from (some ⟨b6, o6, none⟩) nn dn j1 (by omega) HCPs w)
                  have HTNs := Lib.hid (show tailA (some ⟨b6, o6, none⟩) dn j1 = none → nn - j1 = 0 ∧ dn - j1 = 0 from fun e => by have := tailA_none _ _ _ e; cases this)
                  have HTTs := Lib.hid (show Rw 1 qsv w9i (tailA (some ⟨b6, o6, none⟩) dn j1) (((rmQ q a (j + 1)).map (fun x : Qn => x.nm)).drop j1) from HFs.out.tail j1 (by rw [List.length_map, HNN.out]; exact HCPs))
                  have HEs := Lib.hid (show Ow 9 1 qsv (w9i.alloc (.cells #[] 9)).drew w9i.heap.size (some ⟨w9i.heap.size, 0, none⟩) 0 [] from Ow.made w9i)
                  have HBAs := Lib.hid (show Below w9i.heap.size w9i (w9i.alloc (.cells #[] 9)).drew from ((Below.refl _ _).alloc (Nat.le_refl _) _).drew)
                  have HL1s := Lib.hid (show (((rmQ q a (j + 1)).map (fun x : Qn => x.nm)).take j).length = j by rw [List.length_take, List.length_map, HNN.out]; omega)
                  have HL2s := Lib.hid (show (((rmQ q a (j + 1)).map (fun x : Qn => x.nm)).drop j1).length = nn - j1 by rw [List.length_drop, List.length_map, HNN.out])
                  try simp only [List.cons_append, List.nil_append]
                  refine wp_region_held_drew (S := fun wz => Below w9i.heap.size w9i wz) (by kernel_rfl) ((Below.refl _ _).drew) (fun hHeld => ?_)
                  refine take_at (some 105) (i := 1) (v := ?_) rfl rfl (by kernel_rfl) (by kernel_rfl) (by kernel_rfl) (fun _ _ _ h => h) (Or.inl ⟨by kernel_rfl, ?_⟩) hHeld ?_
                  rotate_left
                  · intro wz hSw; go_simp; try (with_reducible rfl)
                  try simp only [Act.put, List.setIfInBounds_toArray, List.set_cons_zero, List.set_cons_succ, List.getElem_toArray, List.getElem_cons_succ, List.getElem_cons_zero]
                  refine take_at (some 106) (i := 2) (v := ?_) rfl rfl (by kernel_rfl) (by kernel_rfl) (by kernel_rfl) (fun _ _ _ h => h) (Or.inl ⟨by kernel_rfl, ?_⟩) hHeld ?_
                  rotate_left
                  · intro wz hSw; go_simp; try (with_reducible rfl)
                  try simp only [Act.put, List.setIfInBounds_toArray, List.set_cons_zero, List.set_cons_succ, List.getElem_toArray, List.getElem_cons_succ, List.getElem_cons_zero]
                  refine take_at (some 107) (i := 3) rfl rfl (by kernel_rfl) (by kernel_rfl) (by kernel_rfl) (fun _ _ _ h => h) (yieldsIf_slice (by kernel_rfl) 47 (.tmp 105) none (some (.tmp 106)) rfl (.slice (some ⟨b6, o6, none⟩) j dn) (fun w => HS1s.out w)) hHeld ?_
                  try simp only [Act.put, List.setIfInBounds_toArray, List.set_cons_zero, List.set_cons_succ, List.getElem_toArray, List.getElem_cons_succ, List.getElem_cons_zero]
                  refine take_at (some 109) (i := 5) (v := ?_) rfl rfl (by kernel_rfl) (by kernel_rfl) (by kernel_rfl) (fun _ _ _ h => h) (Or.inl ⟨by kernel_rfl, ?_⟩) hHeld ?_
                  rotate_left
                  · intro wz hSw; go_simp; try (with_reducible rfl)
                  try simp only [Act.put, List.setIfInBounds_toArray, List.set_cons_zero, List.set_cons_succ, List.getElem_toArray, List.getElem_cons_succ, List.getElem_cons_zero]
                  refine take_at (some 110) (i := 6) (v := ?_) rfl rfl (by kernel_rfl) (by kernel_rfl) (by kernel_rfl) (fun _ _ _ h => h) (Or.inl ⟨by kernel_rfl, ?_⟩) hHeld ?_
                  rotate_left
                  · intro wz hSw; go_simp; try (with_reducible rfl)
                  try simp only [Act.put, List.setIfInBounds_toArray, List.set_cons_zero, List.set_cons_succ, List.getElem_toArray, List.getElem_cons_succ, List.getElem_cons_zero]
                  refine take_at (some 111) (i := 7) (v := ?_) rfl rfl (by kernel_rfl) (by kernel_rfl) (by kernel_rfl) (fun _ _ _ h => h) (Or.inl ⟨by kernel_rfl, ?_⟩) hHeld ?_
                  rotate_left
                  · intro wz hSw; go_simp; try (with_reducible rfl)
                  try simp only [Act.put, List.setIfInBounds_toArray, List.set_cons_zero, List.set_cons_succ, List.getElem_toArray, List.getElem_cons_succ, List.getElem_cons_zero]
                  refine take_at (some 112) (i := 8) rfl rfl (by kernel_rfl) (by kernel_rfl) (by kernel_rfl) (fun _ _ _ h => h) (yieldsIf_slice (by kernel_rfl) 47 (.tmp 109) (some (.tmp 111)) none rfl (.slice (tailA (some ⟨b6, o6, none⟩) dn j1) (nn - j1) (dn - j1)) (fun w => HS2s.out w)) hHeld ?_
                  try simp only [Act.put, List.setIfInBounds_toArray, List.set_cons_zero, List.set_cons_succ, List.getElem_toArray, List.getElem_cons_succ, List.getElem_cons_zero]
                  refine wpAnyH_ready (rs := [0]) (by kernel_rfl) (by simp) (AllReadyH.cons rfl (fun K hK => ?_) AllReadyH.nil)
                  rw [if_pos (by kernel_rfl)]
                  go_simp
                  refine hK.out _ _ HBAs.out (fun hHeld => ?_)
                  try simp only [Act.put, List.setIfInBounds_toArray, List.set_cons_zero, List.set_cons_succ, List.getElem_toArray, List.getElem_cons_succ, List.getElem_cons_zero]
                  refine wpAnyH_ready (rs := [4]) (by kernel_rfl) (by simp) (AllReadyH.cons rfl (fun K hK => ?_) AllReadyH.nil)
                  rw [if_pos (by kernel_rfl)]
                  refine op_rows roS (.tmp 104) (.tmp 107) rfl 0 rfl rfl HEs.out (((rmQ q a (j + 1)).map (fun x : Qn => x.nm)).take j) (some ⟨b6, o6, none⟩) j dn rfl HL1s.out (fun h => by cases h) ((HFs.out.front j).on HBAs.out) (by omega) HBAs.out.size j (by omega) ?_
                  intro A8s c8s w8s ho8 hg8 hb8
                  rw [List.nil_append] at ho8
                  have HO8s := Lib.hid ho8
                  have HB8s := Lib.hid (HBAs.out.trans hb8)
                  clear ho8 hg8 hb8
                  refine hK.out _ _ HB8s.out (fun hHeld => ?_)
                  try simp only [Act.put, List.setIfInBounds_toArray, List.set_cons_zero, List.set_cons_succ, List.getElem_toArray, List.getElem_cons_succ, List.getElem_cons_zero]
                  refine wpAnyH_ready (rs := [9]) (by kernel_rfl) (by simp) (AllReadyH.cons rfl (fun K hK => ?_) AllReadyH.nil)
                  rw [if_pos (by kernel_rfl)]
                  refine op_rows roS (.tmp 108) (.tmp 112) rfl j rfl HL1s.out HO8s.out (((rmQ q a (j + 1)).map (fun x : Qn => x.nm)).drop j1) (tailA (some ⟨b6, o6, none⟩) dn j1) (nn - j1) (dn - j1) rfl HL2s.out HTNs.out (HTTs.out.on HB8s.out) (by omega) HB8s.out.size n2 (by omega) ?_
                  intro A9s c9s w9s ho9 hg9 hb9
                  rw [← HJ1.out, rm_map (fun x : Qn => x.nm) HXJ.out HXG.out] at ho9
                  have HO9s := Lib.hid ho9
                  have HB9s := Lib.hid (HB8s.out.trans hb9)
                  clear ho9 hg9 hb9
                  refine hK.out _ _ HB9s.out (fun hHeld => ?_)
                  try simp only [Act.put, List.setIfInBounds_toArray, List.set_cons_zero, List.set_cons_succ, List.getElem_toArray, List.getElem_cons_succ, List.getElem_cons_zero]
                  refine take_at (some 6) (i := 10) (v := ?_) rfl rfl (by kernel_rfl) (by kernel_rfl) (by kernel_rfl) (fun _ _ _ h => h) (Or.inl ⟨by kernel_rfl, ?_⟩) hHeld ?_
                  rotate_left
                  · intro wz hSw; go_simp; try (with_reducible rfl)
                  try simp only [Act.put, List.setIfInBounds_toArray, List.set_cons_zero, List.set_cons_succ, List.getElem_toArray, List.getElem_cons_succ, List.getElem_cons_zero]
                  refine wpAnyH_done (by kernel_rfl) ?_ _
                  have HLt := Lib.hid (HLs.out.on HB9s.out)
                  have HXt := Lib.hid (HXs.out.on HB9s.out)
                  have HYt := Lib.hid (show Lr 9 qsv W w9s G1 A9s c9s ((rmQ q a j).map (·.nm)) from Lr.of HO9s.out HLs.out.l.size HLs.out.hi)
                  go_wp2_with fail
                  go_roundw
                  case rel => exact ⟨(j : Int) - 1, j, n2, A9i, A9s, c9i, c9s, by omega, by first | rfl | go_num, by first | rfl | go_num, by first | rfl | go_num, rfl, HN2, HXt, HYt, HLt⟩
                  case measure => simp [intOf] <;> omega
                · have hgb : (x.id == a) = false := by simp [hg]
                  have HSM := Lib.hid (show rmQ q a j = rmQ q a (j + 1) by rw [rm_step HXJ.out (id := a), if_neg hg])
                  go_wp2_with fail
                  go_roundw
                  case rel => exact ⟨(j : Int) - 1, j, nn, _, _, _, _, by omega, by first | rfl | go_num, by first | rfl | go_num, by first | rfl | go_num, rfl, Lib.hid (by rw [HSM.out]; exact HNN.out), Lib.hid (by rw [HSM.out]; exact HXr.out), Lib.hid (by rw [HSM.out]; exact HYr.out), HLr⟩
                  case measure => simp [intOf] <;> omega
        · have h3b : (ow == 3) = false := by simp [h3]
          by_cases h4 : ow = 4
          · have h4b : (ow == 4) = true := by simp [h4]
            cases hw : whQ q oi with
            | none =>
              have HT := Lib.hid (show drQ q oi = (false, q) by unfold drQ; rw [hw, out_same hw]; rfl)
              clear hw
              go_upto_region 19 with (go_at_call 15; (with_reducible refine (w_qdrop HLv.out oi HWF.out false q HT.out).mono ?_); rintro e u6 ⟨rfl, h1, h2⟩; have HL6 := Lib.hid h1; have HB6 := Lib.hid (HB.out.step h2); have HX6 := Lib.hid (HXv.out.step h2); have HY6 := Lib.hid (HYv.out.step h2); clear h1 h2)
              clear e0 e1 e2
              have e0 : u6.cell? ⟨kb, 0, none⟩ = some (.int .i64 ow) := HB6.out.b.cell 0
              have e1 : u6.cell? ⟨kb, 1, none⟩ = some (.string on) := HB6.out.b.cell 1
              have e2 : u6.cell? ⟨kb, 2, none⟩ = some (.int .i64 oi) := HB6.out.b.cell 2
              have hw1 : IntKind.i64.wrap ((m : Int) - 1) = (m : Int) - 1 := by rw [IntKind.wrap_i64]; omega
              have HMX := Lib.hid (show q.length = m from HM.out)
              go_wp2_with fail
              refine wp_loop_rounds 1 ?_
              rw [rounds_succ]
              go_wp2_with (go_at_call 21; (with_reducible refine (w_qmany HL6.out m HMX.out).mono ?_); rintro e uc ⟨rfl, h1⟩; have HLc := Lib.hid (HL6.out.on h1); have HXc := Lib.hid (HX6.out.on h1); have HYc := Lib.hid (HY6.out.on h1); clear h1)
              go_roundw
              case rel => exact ⟨i + 1, m, G1, q, _, _, _, _, by omega, by first | rfl | go_num, by first | rfl | go_num, by go_num, HLc, HMX, HXc, HYc⟩
              case measure => simp [intOf]; omega
            | some x =>
              have HT := Lib.hid (show drQ q oi = (true, outQ q oi) by unfold drQ; rw [hw]; rfl)
              clear hw
              go_upto_region 19 with (go_at_call 15; (with_reducible refine (w_qdrop HLv.out oi HWF.out true (outQ q oi) HT.out).mono ?_); rintro e u6 ⟨rfl, h1, h2⟩; have HL6 := Lib.hid h1; have HB6 := Lib.hid (HB.out.step h2); have HX6 := Lib.hid (HXv.out.step h2); have HY6 := Lib.hid (HYv.out.step h2); clear h1 h2)
              clear e0 e1 e2
              have e0 : u6.cell? ⟨kb, 0, none⟩ = some (.int .i64 ow) := HB6.out.b.cell 0
              have e1 : u6.cell? ⟨kb, 1, none⟩ = some (.string on) := HB6.out.b.cell 1
              have e2 : u6.cell? ⟨kb, 2, none⟩ = some (.int .i64 oi) := HB6.out.b.cell 2
              obtain ⟨q2, hq2⟩ : ∃ q2, outQ q oi = q2 := ⟨_, rfl⟩
              have HQ2 := Lib.hid hq2
              rw [hq2] at HL6
              clear hq2
              have hw1 : IntKind.i64.wrap ((m : Int) - 1) = (m : Int) - 1 := by rw [IntKind.wrap_i64]; omega
              go_wp2_with fail
              clear e0 e1 e2
              go_loopw [5, 6, 13] (fun v5 v6 v13 wr => ∃ (z : Int) (k nn : Nat) (Ai An : Option Addr) (ci cn : Nat), k ≤ m ∧ v5 = .slice Ai nn ci ∧ v6 = .slice An nn cn ∧ v13 = .int .i64 z ∧ z = (k : Int) - 1 ∧ Hid ((rmQ q oi k).length = nn) ∧ Hid (Lr 3 qiv W wr G1 Ai ci ((rmQ q oi k).map (·.id))) ∧ Hid (Lr 9 qsv W wr G1 An cn ((rmQ q oi k).map (·.nm))) ∧ Hid (Wq W wr G1 qb q2)) (fun v5 v6 v13 _ => (intOf v13 + 1).toNat)
              case atStart => exact ⟨_, m, m, Ai, An, ci, cn, Nat.le_refl _, rfl, rfl, rfl, rfl, Lib.hid (by rw [rm_all q oi (Nat.le_of_eq HM.out)]; exact HM.out), Lib.hid (by rw [rm_all q oi (Nat.le_of_eq HM.out)]; exact HX6.out), Lib.hid (by rw [rm_all q oi (Nat.le_of_eq HM.out)]; exact HY6.out), HL6⟩
              case round =>
                obtain ⟨z, k, nn, Bi, Bn, di, dn, hk, rfl, rfl, rfl, hz, HNN, HXr, HYr, HLr⟩ := hrel
                by_cases hk0 : k = 0
                · subst hk0
                  have hz1 : ¬ (z ≥ 0) := by omega
                  have hz2 : decide (z ≥ 0) = false := decide_eq_false hz1
                  have hz3 : decide ((0 : Int) ≤ z) = false := decide_eq_false (by omega)
                  clear hz
                  have HE2 := Lib.hid (show rmQ q oi 0 = q2 from HQ2.out)
                  rw [HE2.out] at HNN HXr HYr
                  go_wp2_with (go_at_call 21; (with_reducible refine (w_qmany HLr.out nn HNN.out).mono ?_); rintro e uc ⟨rfl, h1⟩; have HLc := Lib.hid (HLr.out.on h1); have HXc := Lib.hid (HXr.out.on h1); have HYc := Lib.hid (HYr.out.on h1); clear h1)
                  go_roundw
                  case rel => exact ⟨i + 1, nn, G1, q2, Bi, Bn, di, dn, by omega, by first | rfl | go_num, by first | rfl | go_num, by go_num, HLc, HNN, HXc, HYc⟩
                  case measure => simp [intOf]; omega
                · obtain ⟨j, rfl⟩ : ∃ j, k = j + 1 := ⟨k - 1, by omega⟩
                  obtain rfl : z = (j : Int) := by omega
                  obtain ⟨x, hx⟩ : ∃ x, q[j]? = some x := ⟨_, List.getElem?_eq_getElem (by rw [HM.out]; omega)⟩
                  have hxr := rm_at (id := oi) hx
                  have hjn : j < nn := by have := (List.getElem?_eq_some_iff.1 hxr).1; rw [HNN.out] at this; exact this
                  have hj2 : (j : Int) < (nn : Int) := by omega
                  have hj3 : (j : Int) ≥ 0 := by omega
                  have hnn64 : nn ≤ 64 := by
                    rw [← HNN.out]
                    unfold rmQ
                    have h1 := List.length_filter_le (fun x => x.id != oi) (q.drop (j + 1))
                    have h2 := HM.out
                    rw [List.length_append, List.length_take]
                    rw [List.length_drop] at h1
                    omega
                  have hw2 : IntKind.i64.wrap ((j : Int) - 1) = (j : Int) - 1 := by rw [IntKind.wrap_i64]; omega
                  obtain ⟨b5, o5, y5, rfl, hy5, hc5⟩ := (HXr.out.rw_ (fun _ => rfl)).one j (by rw [List.length_map, HNN.out]; exact hjn)
                  obtain ⟨b6, o6, y6, rfl, hy6, hc6⟩ := (HYr.out.rw_ (fun _ => rfl)).one j (by rw [List.length_map, HNN.out]; exact hjn)
                  have e5 : y5 = x.id := by rw [List.getElem?_map, hxr] at hy5; injection hy5 with hy5; exact hy5.symm
                  subst e5
                  have c5a : wr.cell? ⟨b5, o5 + j, none⟩ = some (.int .i64 x.id) := hc5 wr (Below.refl _ _)
                  have HXJ := Lib.hid hx
                  clear hy5 hc5 hy6 hc6 hxr hx hk0 hz
                  by_cases hg : x.id = oi
                  · have hgb : (x.id == oi) = true := by simp [hg]
                    have HXG := Lib.hid hg
                    obtain ⟨j1, hj1⟩ : ∃ j1, j + 1 = j1 := ⟨_, rfl⟩
                    have HJ1 := Lib.hid hj1
                    have hw3 : IntKind.i64.wrap ((j : Int) + 1) = (j1 : Int) := (iwrap _ j1 (by omega) (by omega)).1
                    obtain ⟨n2, hn2⟩ : ∃ n2, j + (nn - j1) = n2 := ⟨_, rfl⟩
                    have HN2 := Lib.hid (show (rmQ q oi j).length = n2 by
                      have h1 := rm_step HXJ.out (id := oi)
                      rw [if_pos HXG.out] at h1
                      rw [h1, List.length_append, List.length_take, List.length_drop, HNN.out]
                      omega)
                    go_upto_region 27 with fail
                    clear c5a
                    have HFi := Lib.hid (show Rw 1 qiv wr (some ⟨b5, o5, none⟩) ((rmQ q oi (j + 1)).map (fun x : Qn => x.id)) from HXr.out.rw_ (fun _ => rfl))
                    have HCPi : nn ≤ di := by have := (HXr.out.o.fit).cap; rw [List.length_map, HNN.out] at this; exact this
                    have HS1i := Lib.hid (fun w => islice_to (some ⟨b5, o5, none⟩) nn di j (by omega) HCPi w)
                    have HS2i := Lib.hid (show ∀ w, _ from fun w => islice_from (some ⟨b5, o5, none⟩) nn di j1 (by omega) HCPi w)
                    have HTNi := Lib.hid (show tailA (some ⟨b5, o5, none⟩) di j1 = none → nn - j1 = 0 ∧ di - j1 = 0 from fun e => by have := tailA_none _ _ _ e; cases this)
                    have HTTi := Lib.hid (show Rw 1 qiv wr (tailA (some ⟨b5, o5, none⟩) di j1) (((rmQ q oi (j + 1)).map (fun x : Qn => x.id)).drop j1) from HFi.out.tail j1 (by rw [List.length_map, HNN.out]; exact HCPi))
                    have HEi := Lib.hid (show Ow 3 1 qiv (wr.alloc (.cells #[] 3)).drew wr.heap.size (some ⟨wr.heap.size, 0, none⟩) 0 [] from Ow.made wr)
                    have HBAi := Lib.hid (show Below wr.heap.size wr (wr.alloc (.cells #[] 3)).drew from ((Below.refl _ _).alloc (Nat.le_refl _) _).drew)
                    have HL1i := Lib.hid (show (((rmQ q oi (j + 1)).map (fun x : Qn => x.id)).take j).length = j by rw [List.length_take, List.length_map, HNN.out]; omega)
                    have HL2i := Lib.hid (show (((rmQ q oi (j + 1)).map (fun x : Qn => x.id)).drop j1).length = nn - j1 by rw [List.length_drop, List.length_map, HNN.out])
                    try simp only [List.cons_append, List.nil_append]
                    refine wp_region_held_drew (S := fun wz => Below wr.heap.size wr wz) (by kernel_rfl) ((Below.refl _ _).drew) (fun hHeld => ?_)
                    refine take_at (some 95) (i := 1) (v := ?_) rfl rfl (by kernel_rfl) (by kernel_rfl) (by kernel_rfl) (fun _ _ _ h => h) (Or.inl ⟨by kernel_rfl, ?_⟩) hHeld ?_
                    rotate_left
                    · intro wz hSw; go_simp; try (with_reducible rfl)
                    try simp only [Act.put, List.setIfInBounds_toArray, List.set_cons_zero, List.set_cons_succ, List.getElem_toArray, List.getElem_cons_succ, List.getElem_cons_zero]
                    refine take_at (some 96) (i := 2) (v := ?_) rfl rfl (by kernel_rfl) (by kernel_rfl) (by kernel_rfl) (fun _ _ _ h => h) (Or.inl ⟨by kernel_rfl, ?_⟩) hHeld ?_
                    rotate_left
                    · intro wz hSw; go_simp; try (with_reducible rfl)
                    try simp only [Act.put, List.setIfInBounds_toArray, List.set_cons_zero, List.set_cons_succ, List.getElem_toArray, List.getElem_cons_succ, List.getElem_cons_zero]
                    refine take_at (some 97) (i := 3) rfl rfl (by kernel_rfl) (by kernel_rfl) (by kernel_rfl) (fun _ _ _ h => h) (yieldsIf_slice (by kernel_rfl) 43 (.tmp 95) none (some (.tmp 96)) rfl (.slice (some ⟨b5, o5, none⟩) j di) (fun w => HS1i.out w)) hHeld ?_
                    try simp only [Act.put, List.setIfInBounds_toArray, List.set_cons_zero, List.set_cons_succ, List.getElem_toArray, List.getElem_cons_succ, List.getElem_cons_zero]
                    refine take_at (some 99) (i := 5) (v := ?_) rfl rfl (by kernel_rfl) (by kernel_rfl) (by kernel_rfl) (fun _ _ _ h => h) (Or.inl ⟨by kernel_rfl, ?_⟩) hHeld ?_
                    rotate_left
                    · intro wz hSw; go_simp; try (with_reducible rfl)
                    try simp only [Act.put, List.setIfInBounds_toArray, List.set_cons_zero, List.set_cons_succ, List.getElem_toArray, List.getElem_cons_succ, List.getElem_cons_zero]
                    refine take_at (some 100) (i := 6) (v := ?_) rfl rfl (by kernel_rfl) (by kernel_rfl) (by kernel_rfl) (fun _ _ _ h => h) (Or.inl ⟨by kernel_rfl, ?_⟩) hHeld ?_
                    rotate_left
                    · intro wz hSw; go_simp; try (with_reducible rfl)
                    try simp only [Act.put, List.setIfInBounds_toArray, List.set_cons_zero, List.set_cons_succ, List.getElem_toArray, List.getElem_cons_succ, List.getElem_cons_zero]
                    refine take_at (some 101) (i := 7) (v := ?_) rfl rfl (by kernel_rfl) (by kernel_rfl) (by kernel_rfl) (fun _ _ _ h => h) (Or.inl ⟨by kernel_rfl, ?_⟩) hHeld ?_
                    rotate_left
                    · intro wz hSw; go_simp; try (with_reducible rfl)
                    try simp only [Act.put, List.setIfInBounds_toArray, List.set_cons_zero, List.set_cons_succ, List.getElem_toArray, List.getElem_cons_succ, List.getElem_cons_zero]
                    refine take_at (some 102) (i := 8) rfl rfl (by kernel_rfl) (by kernel_rfl) (by kernel_rfl) (fun _ _ _ h => h) (yieldsIf_slice (by kernel_rfl) 43 (.tmp 99) (some (.tmp 101)) none rfl (.slice (tailA (some ⟨b5, o5, none⟩) di j1) (nn - j1) (di - j1)) (fun w => HS2i.out w)) hHeld ?_
                    try simp only [Act.put, List.setIfInBounds_toArray, List.set_cons_zero, List.set_cons_succ, List.getElem_toArray, List.getElem_cons_succ, List.getElem_cons_zero]
                    refine wpAnyH_ready (rs := [0]) (by kernel_rfl) (by simp) (AllReadyH.cons rfl (fun K hK => ?_) AllReadyH.nil)
                    rw [if_pos (by kernel_rfl)]
                    go_simp
                    refine hK.out _ _ HBAi.out (fun hHeld => ?_)
                    try simp only [Act.put, List.setIfInBounds_toArray, List.set_cons_zero, List.set_cons_succ, List.getElem_toArray, List.getElem_cons_succ, List.getElem_cons_zero]
                    refine wpAnyH_ready (rs := [4]) (by kernel_rfl) (by simp) (AllReadyH.cons rfl (fun K hK => ?_) AllReadyH.nil)
                    rw [if_pos (by kernel_rfl)]
                    refine op_rows roI (.tmp 94) (.tmp 97) rfl 0 rfl rfl HEi.out (((rmQ q oi (j + 1)).map (fun x : Qn => x.id)).take j) (some ⟨b5, o5, none⟩) j di rfl HL1i.out (fun h => by cases h) ((HFi.out.front j).on HBAi.out) (by omega) HBAi.out.size j (by omega) ?_
                    intro A8i c8i w8i ho8 hg8 hb8
                    rw [List.nil_append] at ho8
                    have HO8i := Lib.hid ho8
                    have HB8i := Lib.hid (HBAi.out.trans hb8)
                    clear ho8 hg8 hb8
                    refine hK.out _ _ HB8i.out (fun hHeld => ?_)
                    try simp only [Act.put, List.setIfInBounds_toArray, List.set_cons_zero, List.set_cons_succ, List.getElem_toArray, List.getElem_cons_succ, List.getElem_cons_zero]
                    refine wpAnyH_ready (rs := [9]) (by kernel_rfl) (by simp) (AllReadyH.cons rfl (fun K hK => ?_) AllReadyH.nil)
                    rw [if_pos (by kernel_rfl)]
                    refine op_rows roI (.tmp 98) (.tmp 102) rfl j rfl HL1i.out HO8i.out (((rmQ q oi (j + 1)).map (fun x : Qn => x.id)).drop j1) (tailA (some ⟨b5, o5, none⟩) di j1) (nn - j1) (di - j1) rfl HL2i.out HTNi.out (HTTi.out.on HB8i.out) (by omega) HB8i.out.size n2 (by omega) ?_
                    intro A9i c9i w9i ho9 hg9 hb9
                    rw [← HJ1.out, rm_map (fun x : Qn => x.id) HXJ.out HXG.out] at ho9
                    have HO9i := Lib.hid ho9
                    have HB9i := Lib.hid (HB8i.out.trans hb9)
                    clear ho9 hg9 hb9
                    refine hK.out _ _ HB9i.out (fun hHeld => ?_)
                    try simp only [Act.put, List.setIfInBounds_toArray, List.set_cons_zero, List.set_cons_succ, List.getElem_toArray, List.getElem_cons_succ, List.getElem_cons_zero]
                    refine take_at (some 5) (i := 10) (v := ?_) rfl rfl (by kernel_rfl) (by kernel_rfl) (by kernel_rfl) (fun _ _ _ h => h) (Or.inl ⟨by kernel_rfl, ?_⟩) hHeld ?_
                    rotate_left
                    · intro wz hSw; go_simp; try (with_reducible rfl)
                    try simp only [Act.put, List.setIfInBounds_toArray, List.set_cons_zero, List.set_cons_succ, List.getElem_toArray, List.getElem_cons_succ, List.getElem_cons_zero]
                    refine wpAnyH_done (by kernel_rfl) ?_ _
                    have HYs := Lib.hid (HYr.out.on HB9i.out)
                    have HLs := Lib.hid (HLr.out.on HB9i.out)
                    have HXs := Lib.hid (show Lr 3 qiv W w9i G1 A9i c9i ((rmQ q oi j).map (·.id)) from Lr.of HO9i.out HLr.out.l.size HLr.out.hi)
                    go_upto_region 28 with fail
                    have HFs := Lib.hid (show Rw 1 qsv w9i (some ⟨b6, o6, none⟩) ((rmQ q oi (j + 1)).map (fun x : Qn => x.nm)) from HYs.out.rw_ (fun _ => rfl))
                    have HCPs : nn ≤ dn := by have := (HYs.out.o.fit).cap; rw [List.length_map, HNN.out] at this; exact this
                    have HS1s := Lib.hid (fun w => sslice_to (some ⟨b6, o6, none⟩) nn dn j (by omega) HCPs w)
                    have HS2s := Lib.hid (show ∀ w, _ from fun w => sslice_from (some ⟨b6, o6, none⟩) nn dn j1 (by omega) HCPs w)
                    have HTNs := Lib.hid (show tailA (some ⟨b6, o6, none⟩) dn j1 = none → nn - j1 = 0 ∧ dn - j1 = 0 from fun e => by have := tailA_none _ _ _ e; cases this)
                    have HTTs := Lib.hid (show Rw 1 qsv w9i (tailA (some ⟨b6, o6, none⟩) dn j1) (((rmQ q oi (j + 1)).map (fun x : Qn => x.nm)).drop j1) from HFs.out.tail j1 (by rw [List.length_map, HNN.out]; exact HCPs))
                    have HEs := Lib.hid (show Ow 9 1 qsv (w9i.alloc (.cells #[] 9)).drew w9i.heap.size (some ⟨w9i.heap.size, 0, none⟩) 0 [] from Ow.made w9i)
                    have HBAs := Lib.hid (show Below w9i.heap.size w9i (w9i.alloc (.cells #[] 9)).drew from ((Below.refl _ _).alloc (Nat.le_refl _) _).drew)
                    have HL1s := Lib.hid (show (((rmQ q oi (j + 1)).map (fun x : Qn => x.nm)).take j).length = j by rw [List.length_take, List.length_map, HNN.out]; omega)
                    have HL2s := Lib.hid (show (((rmQ q oi (j + 1)).map (fun x : Qn => x.nm)).drop j1).length = nn - j1 by rw [List.length_drop, List.length_map, HNN.out])
                    try simp only [List.cons_append, List.nil_append]
                    refine wp_region_held_drew (S := fun wz => Below w9i.heap.size w9i wz) (by kernel_rfl) ((Below.refl _ _).drew) (fun hHeld => ?_)
                    refine take_at (some 105) (i := 1) (v := ?_) rfl rfl (by kernel_rfl) (by kernel_rfl) (by kernel_rfl) (fun _ _ _ h => h) (Or.inl ⟨by kernel_rfl, ?_⟩) hHeld ?_
                    rotate_left
                    · intro wz hSw; go_simp; try (with_reducible rfl)
                    try simp only [Act.put, List.setIfInBounds_toArray, List.set_cons_zero, List.set_cons_succ, List.getElem_toArray, List.getElem_cons_succ, List.getElem_cons_zero]
                    refine take_at (some 106) (i := 2) (v := ?_) rfl rfl (by kernel_rfl) (by kernel_rfl) (by kernel_rfl) (fun _ _ _ h => h) (Or.inl ⟨by kernel_rfl, ?_⟩) hHeld ?_
                    rotate_left
                    · intro wz hSw; go_simp; try (with_reducible rfl)
                    try simp only [Act.put, List.setIfInBounds_toArray, List.set_cons_zero, List.set_cons_succ, List.getElem_toArray, List.getElem_cons_succ, List.getElem_cons_zero]
                    refine take_at (some 107) (i := 3) rfl rfl (by kernel_rfl) (by kernel_rfl) (by kernel_rfl) (fun _ _ _ h => h) (yieldsIf_slice (by kernel_rfl) 47 (.tmp 105) none (some (.tmp 106)) rfl (.slice (some ⟨b6, o6, none⟩) j dn) (fun w => HS1s.out w)) hHeld ?_
                    try simp only [Act.put, List.setIfInBounds_toArray, List.set_cons_zero, List.set_cons_succ, List.getElem_toArray, List.getElem_cons_succ, List.getElem_cons_zero]
                    refine take_at (some 109) (i := 5) (v := ?_) rfl rfl (by kernel_rfl) (by kernel_rfl) (by kernel_rfl) (fun _ _ _ h => h) (Or.inl ⟨by kernel_rfl, ?_⟩) hHeld ?_
                    rotate_left
                    · intro wz hSw; go_simp; try (with_reducible rfl)
                    try simp only [Act.put, List.setIfInBounds_toArray, List.set_cons_zero, List.set_cons_succ, List.getElem_toArray, List.getElem_cons_succ, List.getElem_cons_zero]
                    refine take_at (some 110) (i := 6) (v := ?_) rfl rfl (by kernel_rfl) (by kernel_rfl) (by kernel_rfl) (fun _ _ _ h => h) (Or.inl ⟨by kernel_rfl, ?_⟩) hHeld ?_
                    rotate_left
                    · intro wz hSw; go_simp; try (with_reducible rfl)
                    try simp only [Act.put, List.setIfInBounds_toArray, List.set_cons_zero, List.set_cons_succ, List.getElem_toArray, List.getElem_cons_succ, List.getElem_cons_zero]
                    refine take_at (some 111) (i := 7) (v := ?_) rfl rfl (by kernel_rfl) (by kernel_rfl) (by kernel_rfl) (fun _ _ _ h => h) (Or.inl ⟨by kernel_rfl, ?_⟩) hHeld ?_
                    rotate_left
                    · intro wz hSw; go_simp; try (with_reducible rfl)
                    try simp only [Act.put, List.setIfInBounds_toArray, List.set_cons_zero, List.set_cons_succ, List.getElem_toArray, List.getElem_cons_succ, List.getElem_cons_zero]
                    refine take_at (some 112) (i := 8) rfl rfl (by kernel_rfl) (by kernel_rfl) (by kernel_rfl) (fun _ _ _ h => h) (yieldsIf_slice (by kernel_rfl) 47 (.tmp 109) (some (.tmp 111)) none rfl (.slice (tailA (some ⟨b6, o6, none⟩) dn j1) (nn - j1) (dn - j1)) (fun w => HS2s.out w)) hHeld ?_
                    try simp only [Act.put, List.setIfInBounds_toArray, List.set_cons_zero, List.set_cons_succ, List.getElem_toArray, List.getElem_cons_succ, List.getElem_cons_zero]
                    refine wpAnyH_ready (rs := [0]) (by kernel_rfl) (by simp) (AllReadyH.cons rfl (fun K hK => ?_) AllReadyH.nil)
                    rw [if_pos (by kernel_rfl)]
                    go_simp
                    refine hK.out _ _ HBAs.out (fun hHeld => ?_)
                    try simp only [Act.put, List.setIfInBounds_toArray, List.set_cons_zero, List.set_cons_succ, List.getElem_toArray, List.getElem_cons_succ, List.getElem_cons_zero]
                    refine wpAnyH_ready (rs := [4]) (by kernel_rfl) (by simp) (AllReadyH.cons rfl (fun K hK => ?_) AllReadyH.nil)
                    rw [if_pos (by kernel_rfl)]
                    refine op_rows roS (.tmp 104) (.tmp 107) rfl 0 rfl rfl HEs.out (((rmQ q oi (j + 1)).map (fun x : Qn => x.nm)).take j) (some ⟨b6, o6, none⟩) j dn rfl HL1s.out (fun h => by cases h) ((HFs.out.front j).on HBAs.out) (by omega) HBAs.out.size j (by omega) ?_
                    intro A8s c8s w8s ho8 hg8 hb8
                    rw [List.nil_append] at ho8
                    have HO8s := Lib.hid ho8
                    have HB8s := Lib.hid (HBAs.out.trans hb8)
                    clear ho8 hg8 hb8
                    refine hK.out _ _ HB8s.out (fun hHeld => ?_)
                    try simp only [Act.put, List.setIfInBounds_toArray, List.set_cons_zero, List.set_cons_succ, List.getElem_toArray, List.getElem_cons_succ, List.getElem_cons_zero]
                    refine wpAnyH_ready (rs := [9]) (by kernel_rfl) (by simp) (AllReadyH.cons rfl (fun K hK => ?_) AllReadyH.nil)
                    rw [if_pos (by kernel_rfl)]
                    refine op_rows roS (.tmp 108) (.tmp 112) rfl j rfl HL1s.out HO8s.out (((rmQ q oi (j + 1)).map (fun x : Qn => x.nm)).drop j1) (tailA (some ⟨b6, o6, none⟩) dn j1) (nn - j1) (dn - j1) rfl HL2s.out HTNs.out (HTTs.out.on HB8s.out) (by omega) HB8s.out.size n2 (by omega) ?_
                    intro A9s c9s w9s ho9 hg9 hb9
                    rw [← HJ1.out, rm_map (fun x : Qn => x.nm) HXJ.out HXG.out] at ho9
                    have HO9s := Lib.hid ho9
                    have HB9s := Lib.hid (HB8s.out.trans hb9)
                    clear ho9 hg9 hb9
                    refine hK.out _ _ HB9s.out (fun hHeld => ?_)
                    try simp only [Act.put, List.setIfInBounds_toArray, List.set_cons_zero, List.set_cons_succ, List.getElem_toArray, List.getElem_cons_succ, List.getElem_cons_zero]
                    refine take_at (some 6) (i := 10) (v := ?_) rfl rfl (by kernel_rfl) (by kernel_rfl) (by kernel_rfl) (fun _ _ _ h => h) (Or.inl ⟨by kernel_rfl, ?_⟩) hHeld ?_
                    rotate_left
                    · intro wz hSw; go_simp; try (with_reducible rfl)
                    try simp only [Act.put, List.setIfInBounds_toArray, List.set_cons_zero, List.set_cons_succ, List.getElem_toArray, List.getElem_cons_succ, List.getElem_cons_zero]
                    refine wpAnyH_done (by kernel_rfl) ?_ _
                    have HLt := Lib.hid (HLs.out.on HB9s.out)
                    have HXt := Lib.hid (HXs.out.on HB9s.out)
                    have HYt := Lib.hid (show Lr 9 qsv W w9s G1 A9s c9s ((rmQ q oi j).map (·.nm)) from Lr.of HO9s.out HLs.out.l.size HLs.out.hi)
                    go_wp2_with fail
                    go_roundw
                    case rel => exact ⟨(j : Int) - 1, j, n2, A9i, A9s, c9i, c9s, by omega, by first | rfl | go_num, by first | rfl | go_num, by first | rfl | go_num, rfl, HN2, HXt, HYt, HLt⟩
                    case measure => simp [intOf] <;> omega
                  · have hgb : (x.id == oi) = false := by simp [hg]
                    have HSM := Lib.hid (show rmQ q oi j = rmQ q oi (j + 1) by rw [rm_step HXJ.out (id := oi), if_neg hg])
                    go_wp2_with fail
                    go_roundw
                    case rel => exact ⟨(j : Int) - 1, j, nn, _, _, _, _, by omega, by first | rfl | go_num, by first | rfl | go_num, by first | rfl | go_num, rfl, Lib.hid (by rw [HSM.out]; exact HNN.out), Lib.hid (by rw [HSM.out]; exact HXr.out), Lib.hid (by rw [HSM.out]; exact HYr.out), HLr⟩
                    case measure => simp [intOf] <;> omega
          · have h4b : (ow == 4) = false := by simp [h4]
            rcases pu_cases q on oi with ⟨hw, hp⟩ | ⟨hw, hfull, hp⟩ | ⟨hw, h8, h64, hp⟩
            · have HT := Lib.hid hp
              clear hw hp
              go_upto_region 23 with (go_at_call 17; (with_reducible refine (w_qput HLv.out on oi HSZ.out HWF.out 4 q HT.out).mono ?_); rintro e u6 ⟨G6, rfl, h1, h2⟩; have HL6 := Lib.hid h1; have HX6 := Lib.hid (HXv.out.step h2); have HY6 := Lib.hid (HYv.out.step h2); clear h1 h2)
              clear e0 e1 e2
              have hw1 : IntKind.i64.wrap ((m : Int) - 1) = (m : Int) - 1 := by rw [IntKind.wrap_i64]; omega
              have HMX := Lib.hid (show q.length = m from HM.out)
              go_wp2_with fail
              refine wp_loop_rounds 1 ?_
              rw [rounds_succ]
              go_wp2_with (go_at_call 21; (with_reducible refine (w_qmany HL6.out m HMX.out).mono ?_); rintro e uc ⟨rfl, h1⟩; have HLc := Lib.hid (HL6.out.on h1); have HXc := Lib.hid (HX6.out.on h1); have HYc := Lib.hid (HY6.out.on h1); clear h1)
              go_roundw
              case rel => exact ⟨i + 1, m, G6, q, _, _, _, _, by omega, by first | rfl | go_num, by first | rfl | go_num, by go_num, HLc, HMX, HXc, HYc⟩
              case measure => simp [intOf]; omega
            · have HT := Lib.hid hp
              clear hw hp hfull
              go_upto_region 23 with (go_at_call 17; (with_reducible refine (w_qput HLv.out on oi HSZ.out HWF.out 2 q HT.out).mono ?_); rintro e u6 ⟨G6, rfl, h1, h2⟩; have HL6 := Lib.hid h1; have HX6 := Lib.hid (HXv.out.step h2); have HY6 := Lib.hid (HYv.out.step h2); clear h1 h2)
              clear e0 e1 e2
              have hw1 : IntKind.i64.wrap ((m : Int) - 1) = (m : Int) - 1 := by rw [IntKind.wrap_i64]; omega
              have HMX := Lib.hid (show q.length = m from HM.out)
              go_wp2_with fail
              refine wp_loop_rounds 1 ?_
              rw [rounds_succ]
              go_wp2_with (go_at_call 21; (with_reducible refine (w_qmany HL6.out m HMX.out).mono ?_); rintro e uc ⟨rfl, h1⟩; have HLc := Lib.hid (HL6.out.on h1); have HXc := Lib.hid (HX6.out.on h1); have HYc := Lib.hid (HY6.out.on h1); clear h1)
              go_roundw
              case rel => exact ⟨i + 1, m, G6, q, _, _, _, _, by omega, by first | rfl | go_num, by first | rfl | go_num, by go_num, HLc, HMX, HXc, HYc⟩
              case measure => simp [intOf]; omega
            · have HT := Lib.hid hp
              clear hw hp h8 h64
              go_upto_region 21 with (go_at_call 17; (with_reducible refine (w_qput HLv.out on oi HSZ.out HWF.out 0 (q ++ [⟨on, oi⟩]) HT.out).mono ?_); rintro e u6 ⟨G6, rfl, h1, h2⟩; have HL6 := Lib.hid h1; have HB6 := Lib.hid (HB.out.step h2); have HX6 := Lib.hid (HXv.out.step h2); have HY6 := Lib.hid (HYv.out.step h2); clear h1 h2)
              clear e0 e1 e2
              have e0 : u6.cell? ⟨kb, 0, none⟩ = some (.int .i64 ow) := HB6.out.b.cell 0
              have e1 : u6.cell? ⟨kb, 1, none⟩ = some (.string on) := HB6.out.b.cell 1
              have e2 : u6.cell? ⟨kb, 2, none⟩ = some (.int .i64 oi) := HB6.out.b.cell 2
              have HOA := Lib.hid (HX6.out.o.on ((Below.refl u6.heap.size u6).alloc (Nat.le_refl _) (.cells #[.int .i64 oi] 3)))
              have HRX := Lib.hid (Rw.bk (f := qiv) (k := 1) (x := oi) (Bk.new u6 3 #[.int .i64 oi]))
              have HSA := Lib.hid (show W.heap.size ≤ (u6.alloc (.cells #[.int .i64 oi] 3)).heap.size by have := HL6.out.l.size; rw [World.size_alloc]; omega)
              go_upto_region 22 with (at_builtin; refine wp_rows_at roI rfl (.tmp 68) (.tmp 71) rfl m rfl HMI.out HOA.out oi u6.heap.size 1 rfl HRX.out (by omega) HSA.out (m + 1) rfl ?_; intro g9 c9 w9 ho hg hb hat; have HZ := Lib.hid (HX6.out.app HL6.out ho (by rw [HMI.out]; exact hg) (by rw [HMI.out]; exact hat)); clear ho hg hb hat)
              have HL9 := Lib.hid HZ.out.2.1
              have HX9 := Lib.hid HZ.out.1
              have HY9 := Lib.hid (HZ.out.2.2.1 (by decide) HY6.out)
              have HB9 := Lib.hid (show Bz w9 G6 kb 30 #[.int .i64 ow, .string on, .int .i64 oi] from ⟨HZ.out.2.2.2 (by decide) HB6.out.b, HB6.out.n⟩)
              clear e0 e1 e2 HZ HOA HRX HSA
              have e0 : w9.cell? ⟨kb, 0, none⟩ = some (.int .i64 ow) := HB9.out.b.cell 0
              have e1 : w9.cell? ⟨kb, 1, none⟩ = some (.string on) := HB9.out.b.cell 1
              have e2 : w9.cell? ⟨kb, 2, none⟩ = some (.int .i64 oi) := HB9.out.b.cell 2
              have HOA := Lib.hid (HY9.out.o.on ((Below.refl w9.heap.size w9).alloc (Nat.le_refl _) (.cells #[.string on] 9)))
              have HRX := Lib.hid (Rw.bk (f := qsv) (k := 1) (x := on) (Bk.new w9 9 #[.string on]))
              have HSA := Lib.hid (show W.heap.size ≤ (w9.alloc (.cells #[.string on] 9)).heap.size by have := HL9.out.l.size; rw [World.size_alloc]; omega)
              go_upto_region 23 with (at_builtin; refine wp_rows_at roS rfl (.tmp 73) (.tmp 76) rfl m rfl HMN.out HOA.out on w9.heap.size 1 rfl HRX.out (by omega) HSA.out (m + 1) rfl ?_; intro ga ca wa ho hg hb hat; have HZ := Lib.hid (HY9.out.app HL9.out ho (by rw [HMN.out]; exact hg) (by rw [HMN.out]; exact hat)); clear ho hg hb hat)
              obtain ⟨q2, hq2⟩ : ∃ q2, q ++ [⟨on, oi⟩] = q2 := ⟨_, rfl⟩
              obtain ⟨m2, hm2⟩ : ∃ m2, m + 1 = m2 := ⟨_, rfl⟩
              have HLa := Lib.hid (show Wq W wa G6 qb q2 by rw [← hq2]; exact HZ.out.2.1)
              have HYa := Lib.hid (show Lr 9 qsv W wa G6 (some ⟨ga, 0, none⟩) ca (q2.map (·.nm)) by rw [← hq2, List.map_append]; exact HZ.out.1)
              have HXa := Lib.hid (show Lr 3 qiv W wa G6 (some ⟨g9, 0, none⟩) c9 (q2.map (·.id)) by rw [← hq2, List.map_append]; exact HZ.out.2.2.1 (by decide) HX9.out)
              have HM2 := Lib.hid (show q2.length = m2 by rw [← hq2, List.length_append, HM.out]; exact hm2)
              have hm64b : m2 ≤ 64 := by rw [← HM2.out]; exact HLa.out.ok.few
              try rw [hm2]
              clear e0 e1 e2 hq2 hm2 HZ HOA HRX HSA
              have hw1 : IntKind.i64.wrap ((m2 : Int) - 1) = (m2 : Int) - 1 := by rw [IntKind.wrap_i64]; omega
              have HMX := Lib.hid (show q2.length = m2 from HM2.out)
              go_wp2_with fail
              refine wp_loop_rounds 1 ?_
              rw [rounds_succ]
              go_wp2_with (go_at_call 21; (with_reducible refine (w_qmany HLa.out m2 HMX.out).mono ?_); rintro e uc ⟨rfl, h1⟩; have HLc := Lib.hid (HLa.out.on h1); have HXc := Lib.hid (HXa.out.on h1); have HYc := Lib.hid (HYa.out.on h1); clear h1)
              go_roundw
              case rel => exact ⟨i + 1, m2, G6, q2, _, _, _, _, by omega, by first | rfl | go_num, by first | rfl | go_num, by go_num, HLc, HMX, HXc, HYc⟩
              case measure => simp [intOf]; omega
      · have hi2 : ¬ (i : Int) < (n : Int) := by omega
        go_wp2_with fail
        go_loopw [14] (fun v14 wr2 => ∃ (j : Nat), j ≤ m ∧ v14 = .int .i64 (j : Int) ∧ wr2 = wr) (fun v14 _ => m - (intOf v14).toNat)
        case atStart => exact ⟨0, by omega, rfl, by first | rfl | trivial⟩
        case round =>
          obtain ⟨j, hj, rfl, hwr⟩ := hrel
          subst hwr
          by_cases hj1 : j < m
          · have hj2 : (j : Int) < (m : Int) := by omega
            obtain ⟨x, hx⟩ : ∃ x, q[j]? = some x := ⟨_, List.getElem?_eq_getElem (by rw [HM.out]; exact hj1)⟩
            obtain ⟨b5, o5, y5, rfl, hy5, hc5⟩ := (HX.out.rw_ (fun _ => rfl)).one j (by rw [List.length_map, HM.out]; exact hj1)
            obtain ⟨b6, o6, y6, rfl, hy6, hc6⟩ := (HY.out.rw_ (fun _ => rfl)).one j (by rw [List.length_map, HM.out]; exact hj1)
            have e5 : y5 = x.id := by rw [List.getElem?_map, hx] at hy5; injection hy5 with hy5; exact hy5.symm
            have e6 : y6 = x.nm := by rw [List.getElem?_map, hx] at hy6; injection hy6 with hy6; exact hy6.symm
            subst e5; subst e6
            have hxm : x ∈ q := List.mem_of_getElem? hx
            have HWX := Lib.hid (show whN q x.id = x.nm ∧ (whQ q x.id).isSome = true by unfold whN; rw [wh_of HL.out.ok.nd hxm]; exact ⟨rfl, rfl⟩)
            have HWF := Lib.hid (HL.out.wf hxm)
            have c5a : wr.cell? ⟨b5, o5 + j, none⟩ = some (.int .i64 x.id) := hc5 wr (Below.refl _ _)
            have c6a : wr.cell? ⟨b6, o6 + j, none⟩ = some (.string x.nm) := hc6 wr (Below.refl _ _)
            obtain ⟨xn, hxn⟩ : ∃ xn, x.nm = xn := ⟨_, rfl⟩
            obtain ⟨xi, hxi⟩ : ∃ xi, x.id = xi := ⟨_, rfl⟩
            rw [hxn] at c6a HWX
            rw [hxi] at c5a HWX HWF
            have hne : (xn.toList != xn.toList) = false := by simp
            have hne2 : (xn.toList == xn.toList) = true := by simp
            clear hx hy5 hc5 hy6 hc6 hxm hxn hxi
            go_wp2_with (go_at_call 19; (with_reducible refine (w_qwhere HL.out xi HWF.out xn true HWX.out).mono ?_); rintro e ux ⟨rfl, hu⟩; rw [hu]; clear hu)
            go_roundw
            case rel => exact ⟨j + 1, by omega, by go_num, by first | rfl | trivial⟩
            case measure => simp [intOf]; omega
          · have hj2 : ¬ (j : Int) < (m : Int) := by omega
            go_wp2_with fail
            go_ret
            exact ⟨rfl, HL.out.l⟩
end Go.Proofs.Ytikkiifcnjiegaa
