/- The walk of MacKeys. (Written by gen_mkeys.py.) -/
import Derived.Test.YtoekdiefbpnekaaDoorMHead
import Derived.Test.YtoekdiefbpnekaaDoorRSum
import Derived.Test.YtoekdiefbpnekaaDoorConv
import Derived.Test.YtoekdiefbpnekaaDoorAppZ
namespace Go.Proofs.YtoekdiefbpnekaaDoor
set_option linter.unusedVariables false
set_option linter.unusedSimpArgs false
open Go.RowKit

set_option maxRecDepth 100000 in
set_option maxHeartbeats 4000000 in
theorem walk_MacKeys (A : Option Addr) (l : List UInt8) (n c : Nat) (z3 : Int) (A' : Option Addr) (l' : List UInt8) (n' c' : Nat) (W : World) (w0 : InB W A l n c) (w1 : (Lit.int .u8 z3).wf = true) (w2 : InB W A' l' n' c') (hG : Gl W) :
    Calls Tryd.prog 7 #[.slice A n c, .int .u8 z3, .slice A' n' c'] W fun e w' => e = .returned (.bool true) ∧ Below W.heap.size W w' := by
  have hz3 : 0 ≤ z3 ∧ z3 ≤ 255 := by
    have e1 : IntKind.u8.min = 0 := by decide
    have e2 : IntKind.u8.max = 255 := by decide
    simp only [Lit.wf, e1, e2, Bool.and_eq_true, decide_eq_true_eq] at w1
    exact w1
  obtain ⟨z, rfl⟩ := Int.eq_ofNat_of_zero_le hz3.1
  have hz255 : z ≤ 255 := by omega
  have HI := Lib.hid w0
  have HI2 := Lib.hid w2
  have HG := Lib.hid hG
  clear w0 w1 w2 hG hz3
  by_cases g1 : 9000 < n
  · go_enter Tryd.func7, Tryd.ntmps7
    go_wp2_with fail
    refine (mhead_ok _ HG.out).mono ?_
    rintro e w1 ⟨rfl, hb1⟩
    go_wp2_with fail
    go_ret
    exact ⟨rfl, hb1⟩
  by_cases g2 : 9000 < n'
  · go_enter Tryd.func7, Tryd.ntmps7
    go_wp2_with fail
    refine (mhead_ok _ HG.out).mono ?_
    rintro e w1 ⟨rfl, hb1⟩
    go_wp2_with fail
    go_ret
    exact ⟨rfl, hb1⟩
  have HN := Lib.hid (show n ≤ 1099511627776 by omega)
  have HN' := Lib.hid (show n' ≤ 549755813888 by omega)
  have HGW := Lib.hid (show ∀ u, Below W.heap.size W u → Gl u from fun u hu => HG.out.below hu HG.out.size)
  have HRW := Lib.hid (show ∀ u, Below W.heap.size W u → Rb u u.heap.size A l from fun u hu => (HI.out.rb.below hu (Nat.le_refl _)).more hu.size)
  have HRW2 := Lib.hid (show ∀ u, Below W.heap.size W u → Rb u u.heap.size A' l' from fun u hu => (HI2.out.rb.below hu (Nat.le_refl _)).more hu.size)
  obtain ⟨M, hM⟩ : ∃ M, M = macB l l' := ⟨_, rfl⟩
  have HM := Lib.hid hM
  have HML := Lib.hid (show M.length = 32 by rw [hM, macB_len])
  clear hM
  by_cases h64 : 64 < n
  · have h65 : (64 : Int) < (n : Int) := by omega
    have HM2 := Lib.hid (show M = macB (sum l) l' by rw [HM.out]; exact macB_long l l' (by rw [HI.out.len]; exact h64))
    have HEI := Lib.hid (show (Tryd.prog.info? 26).map (·.size) = some (bcells (sum l)).size by rw [bcells_size, sum_len]; kernel_rfl)
    have HEI2 := Lib.hid (show (bcells (List.replicate 32 0)).size = (bcells (sum l)).size by rw [bcells_size, bcells_size, sum_len, List.length_replicate])
    go_enter Tryd.func7, Tryd.ntmps7
    go_wp2_with fail
    refine (mhead_ok _ HG.out).mono ?_
    rintro e w1 ⟨rfl, hb1⟩
    have HB1 := Lib.hid hb1
    clear hb1
    go_wp2_with fail
    refine (rsum_ok A n c l _ HI.out.len HI.out.cap HN.out HI.out.nil_ (HRW.out _ HB1.out)).mono ?_
    rintro e w2 ⟨rfl, hb2⟩
    have HB2 := Lib.hid (HB1.out.trans (hb2.mono HB1.out.size))
    clear hb2 HB1
    go_upto_region 6 with (refine wpList_store_row rfl 26 (.tmp 8) (.tmp 24) rfl w2.heap.size _ rfl rfl 26 _ (zeros_new w2) HEI.out HEI2.out (bcells_one _) ?_)
    refine gen_world (fun u => Bk u w2.heap.size 26 (bcells (sum l)) ∧ Below W.heap.size W u) ⟨(zeros_new w2).setRow _, Below.setRow (HB2.out.alloc HB2.out.size _) _ HB2.out.size _⟩ (fun w4 hw4 => ?_)
    obtain ⟨gx, hgx⟩ : ∃ g, g = w2.heap.size := ⟨_, rfl⟩
    rw [← hgx] at hw4 ⊢
    have HX4 := Lib.hid hw4.1
    have HB4 := Lib.hid hw4.2
    clear hw4 hgx HB2
    have HEQ := Lib.hid (show ∀ (ops : Array Oper) (oi : Oper) (a : Act) {x y : Operand} {d : TypeId}, Region.wanted oi (yielded ops a.tmps) = true → oi.op = .binOp .eql 26 x y d → a.eval x = .agg (bcells M) → a.eval y = .agg (bcells M) → YieldsIf Tryd.prog ops (fun u => Below W.heap.size W u) oi (.bool true) a from
      fun ops oi a x y d hw ho hx hy => .inl ⟨hw, fun w _ => by
        have h := eq_arr M HML.out x y w
        unfold execOp
        simp only [ho, hx, hy]
        rw [Sem.run_bind, h]
        rfl⟩)
    go_wp2_with fail
    try simp only [List.cons_append, List.nil_append]
    refine wp_region_held_drew (S := fun u => Below W.heap.size W u) (by kernel_rfl) (HB4.out.drew) (fun hHeld => ?_)
    refine take_at (some 25) (i := 0) (v := ?_) rfl rfl (by kernel_rfl) (by kernel_rfl) (by kernel_rfl) (fun _ _ _ h => h) (Or.inl ⟨by kernel_rfl, ?_⟩) hHeld ?_
    rotate_left
    · intro wz hSw; go_simp; try (with_reducible rfl)
    try simp only [Act.put, List.setIfInBounds_toArray, List.set_cons_zero, List.set_cons_succ, List.getElem_toArray, List.getElem_cons_succ, List.getElem_cons_zero]
    refine take_at (some 26) (i := 1) (v := ?_) rfl rfl (by kernel_rfl) (by kernel_rfl) (by kernel_rfl) (fun _ _ _ h => h) (Or.inl ⟨by kernel_rfl, ?_⟩) hHeld ?_
    rotate_left
    · intro wz hSw; go_simp; try (with_reducible rfl)
    try simp only [Act.put, List.setIfInBounds_toArray, List.set_cons_zero, List.set_cons_succ, List.getElem_toArray, List.getElem_cons_succ, List.getElem_cons_zero]
    refine take_at (some 27) (i := 2) (v := ?_) rfl rfl (by kernel_rfl) (by kernel_rfl) (by kernel_rfl) (fun _ _ _ h => h) (Or.inl ⟨by kernel_rfl, ?_⟩) hHeld ?_
    rotate_left
    · intro wz hSw; go_simp; try (with_reducible rfl)
    try simp only [Act.put, List.setIfInBounds_toArray, List.set_cons_zero, List.set_cons_succ, List.getElem_toArray, List.getElem_cons_succ, List.getElem_cons_zero]
    refine take_at (some 28) (i := 3) (v := ?_) rfl rfl (by kernel_rfl) (by kernel_rfl) (by kernel_rfl) (fun _ _ _ h => h) (Or.inl ⟨by kernel_rfl, ?_⟩) hHeld ?_
    rotate_left
    · intro wz hSw; go_simp; try (with_reducible rfl)
    try simp only [Act.put, List.setIfInBounds_toArray, List.set_cons_zero, List.set_cons_succ, List.getElem_toArray, List.getElem_cons_succ, List.getElem_cons_zero]
    refine take_at (some 30) (i := 5) (v := ?_) rfl rfl (by kernel_rfl) (by kernel_rfl) (by kernel_rfl) (fun _ _ _ h => h) (Or.inl ⟨by kernel_rfl, ?_⟩) hHeld ?_
    rotate_left
    · intro wz hSw; go_simp; try (with_reducible rfl)
    try simp only [Act.put, List.setIfInBounds_toArray, List.set_cons_zero, List.set_cons_succ, List.getElem_toArray, List.getElem_cons_succ, List.getElem_cons_zero]
    refine take_at (some 31) (i := 6) (v := ?_) rfl rfl (by kernel_rfl) (by kernel_rfl) (by kernel_rfl) (fun _ _ _ h => h) (Or.inl ⟨by kernel_rfl, ?_⟩) hHeld ?_
    rotate_left
    · intro wz hSw; go_simp; try (with_reducible rfl)
    try simp only [Act.put, List.setIfInBounds_toArray, List.set_cons_zero, List.set_cons_succ, List.getElem_toArray, List.getElem_cons_succ, List.getElem_cons_zero]
    refine wpAnyH_ready (rs := [4]) (by kernel_rfl) (by simp) (AllReadyH.cons rfl (fun K hK => ?_) AllReadyH.nil)
    rw [if_pos (by kernel_rfl)]
    go_simp
    refine (mac_ok A n c l A' n' c' l' _ HI.out.len HI.out.cap HI.out.max HN.out (HRW.out _ hHeld) HI2.out.len HN'.out (HRW2.out _ hHeld) HI2.out.nil_ (HGW.out _ hHeld)).mono ?_
    rintro e w7 ⟨rfl, hb⟩
    rw [← HM.out]
    have HX7 := Lib.hid (HX4.out.drew.below hb HX4.out.lt)
    have HS7 := Lib.hid (hHeld.trans (hb.mono hHeld.size))
    clear hb hHeld
    try dsimp only
    refine hK.out _ _ HS7.out (fun hHeld => ?_)
    try simp only [Act.put, List.setIfInBounds_toArray, List.set_cons_zero, List.set_cons_succ, List.getElem_toArray, List.getElem_cons_succ, List.getElem_cons_zero]
    refine wpAnyH_ready (rs := [7]) (by kernel_rfl) (by simp) (AllReadyH.cons rfl (fun K hK => ?_) AllReadyH.nil)
    rw [if_pos (by kernel_rfl)]
    go_simp
    refine (mac_ok (some ⟨gx, 0, none⟩) 32 32 (sum l) A' n' c' l' _ (sum_len _) (Nat.le_refl _) (by omega) (by omega) (Rb.row HX7.out HX7.out.lt) HI2.out.len HN'.out (HRW2.out _ hHeld) HI2.out.nil_ (HGW.out _ hHeld)).mono ?_
    rintro e w8 ⟨rfl, hb⟩
    rw [← HM2.out]
    have HS8 := Lib.hid (hHeld.trans (hb.mono hHeld.size))
    clear hb hHeld
    try dsimp only
    refine hK.out _ _ HS8.out (fun hHeld => ?_)
    try simp only [Act.put, List.setIfInBounds_toArray, List.set_cons_zero, List.set_cons_succ, List.getElem_toArray, List.getElem_cons_succ, List.getElem_cons_zero]
    refine take_at (some 33) (i := 8) rfl rfl (by kernel_rfl) (by kernel_rfl) (by kernel_rfl) (fun _ _ _ h => h) (HEQ.out _ _ _ (by kernel_rfl) rfl rfl rfl) hHeld ?_
    try simp only [Act.put, List.setIfInBounds_toArray, List.set_cons_zero, List.set_cons_succ, List.getElem_toArray, List.getElem_cons_succ, List.getElem_cons_zero]
    refine take_at (some 34) (i := 9) (v := ?_) rfl rfl (by kernel_rfl) (by kernel_rfl) (by kernel_rfl) (fun _ _ _ h => h) (Or.inl ⟨by kernel_rfl, ?_⟩) hHeld ?_
    rotate_left
    · intro wz hSw; go_simp; try (with_reducible rfl)
    try simp only [Act.put, List.setIfInBounds_toArray, List.set_cons_zero, List.set_cons_succ, List.getElem_toArray, List.getElem_cons_succ, List.getElem_cons_zero]
    refine take_at (some 6) (i := 10) (v := ?_) rfl rfl (by kernel_rfl) (by kernel_rfl) (by kernel_rfl) (fun _ _ _ h => h) (Or.inl ⟨by kernel_rfl, ?_⟩) hHeld ?_
    rotate_left
    · intro wz hSw; go_simp; try (with_reducible rfl)
    try simp only [Act.put, List.setIfInBounds_toArray, List.set_cons_zero, List.set_cons_succ, List.getElem_toArray, List.getElem_cons_succ, List.getElem_cons_zero]
    refine wpAnyH_done (by kernel_rfl) ?_ _
    go_wp2_with fail
    go_ret
    exact ⟨rfl, hHeld⟩
  · have h65 : (n : Int) ≤ 64 := by omega
    obtain ⟨d, hd⟩ : ∃ d, d + n = 64 := ⟨64 - n, by omega⟩
    obtain ⟨m, hm⟩ : ∃ m, m = min z d := ⟨_, rfl⟩
    have HM2 := Lib.hid (show M = macB (l ++ List.replicate m 0) l' by rw [HM.out]; exact (macB_zeros l l' m (by rw [HI.out.len]; omega)).symm)
    have HKL := Lib.hid (show (l ++ List.replicate m (0 : UInt8)).length = n + m by rw [List.length_append, List.length_replicate, HI.out.len])
    have HMM := Lib.hid (show m ≤ 64 ∧ n ≤ 64 by omega)
    have hmn : (min (z : Int) (d : Int)) = (m : Int) := by omega
    have hzw : IntKind.i64.wrap (z : Int) = (z : Int) := by rw [IntKind.wrap_i64]; omega
    obtain ⟨y1, y2⟩ := iwrap (64 - (n : Int)) d (by omega) (by omega)
    clear hm hd
    go_enter Tryd.func7, Tryd.ntmps7
    go_wp2_with fail
    refine (mhead_ok _ HG.out).mono ?_
    rintro e w1 ⟨rfl, hb1⟩
    have HB1 := Lib.hid hb1
    clear hb1
    have hE : OB (w1.alloc (.cells #[] 5)) W.heap.size 5 (some ⟨w1.heap.size, 0, none⟩) 0 [] := OB.new 5 [] HB1.out.size (by decide)
    have HE := Lib.hid hE
    have HA1 := Lib.hid (show Below W.heap.size W (w1.alloc (.cells #[] 5)) from HB1.out.alloc HB1.out.size _)
    clear hE
    go_wp2_with (first
      | (at_builtin; refine wpList_wanted (by kernel_rfl) (fun K hK => ?_); refine op_app_any (.tmp 43) (.tmp 44) 22 5 rfl Tryd.underlying22 bytesInfo W.heap.size [] _ 0 0 rfl rfl HE.out l A n c _ rfl HI.out.len HI.out.nil_ (HRW.out _ HA1.out) (by have := HI.out.len; have := HMM.out; simp only [List.length_nil]; omega) HA1.out.size ?_; intro A4 c4 w4 ho4 hg4 hb4; refine hK _ _ ?_; rw [show (([] : List UInt8) ++ l).length = n from HI.out.len]; clear hK)
      | (at_builtin; refine wpList_wanted (by kernel_rfl) (fun K hK => ?_); refine op_app_zeros (.tmp 45) (.tmp 46) 22 3 5 rfl Tryd.underlying22 Tryd.underlying3 bytesInfo W.heap.size l A4 n c4 rfl HI.out.len (show OB w4 W.heap.size 5 A4 c4 l from ho4) m rfl (by have := HI.out.len; have := HMM.out; omega) (Nat.le_trans HA1.out.size hb4.size) ?_; intro A5 c5 w5 ho5 hb5; refine hK _ _ ?_; clear hK))
    have HO5 := Lib.hid ho5
    have HB5 := Lib.hid ((HA1.out.trans hb4).trans hb5)
    clear ho4 hg4 hb4 ho5 hb5 HE HA1
    refine (mac_ok A5 (n + m) c5 (l ++ List.replicate m 0) A' n' c' l' _ HKL.out (by have := HO5.out.cap; rw [HKL.out] at this; exact this.1) HO5.out.cap.2 (by have := HMM.out; omega) HO5.out.rb HI2.out.len HN'.out (HRW2.out _ HB5.out) HI2.out.nil_ (HGW.out _ HB5.out)).mono ?_
    rintro e w6 ⟨rfl, hb6⟩
    rw [← HM2.out]
    have HB6 := Lib.hid (HB5.out.trans (hb6.mono HB5.out.size))
    clear hb6
    go_wp2_with fail
    refine (mac_ok A n c l A' n' c' l' _ HI.out.len HI.out.cap HI.out.max HN.out (HRW.out _ HB6.out) HI2.out.len HN'.out (HRW2.out _ HB6.out) HI2.out.nil_ (HGW.out _ HB6.out)).mono ?_
    rintro e w7 ⟨rfl, hb7⟩
    rw [← HM.out]
    have HB7 := Lib.hid (HB6.out.trans (hb7.mono HB6.out.size))
    clear hb7
    go_wp2_with (refine wpList_eqarr (by kernel_rfl) (.tmp 49) (.tmp 52) 26 rfl M HML.out rfl rfl ?_)
    go_ret
    exact ⟨rfl, HB7.out⟩
end Go.Proofs.YtoekdiefbpnekaaDoor
