/- The walk of MacStill. (Written by gen_mstill.py.) -/
import Derived.Test.YtoekdiefbpnekaaDoorMHead
import Derived.Test.YtoekdiefbpnekaaDoorGreat
import Derived.Test.YtoekdiefbpnekaaDoorConv
namespace Go.Proofs.YtoekdiefbpnekaaDoor
set_option linter.unusedVariables false
set_option linter.unusedSimpArgs false
open Go.RowKit

set_option maxRecDepth 100000 in
set_option maxHeartbeats 8000000 in
theorem walk_MacStill (A : Option Addr) (l : List UInt8) (n c : Nat) (A' : Option Addr) (l' : List UInt8) (n' c' : Nat) (A2 : Option Addr) (ws : List ByteArray) (n2 c2 : Nat) (W : World) (w0 : InB W A l n c) (w1 : InB W A' l' n' c') (w2 : InS W A2 ws n2 c2) (hG : Gl W) :
    Calls Tryd.prog 11 #[.slice A n c, .slice A' n' c', .slice A2 n2 c2] W fun e w' => e = .returned (.bool true) ∧ Below W.heap.size W w' := by
  have HI := Lib.hid w0
  have HI2 := Lib.hid w1
  have HSI := Lib.hid w2
  have HG := Lib.hid hG
  have HC2 := Lib.hid (show n2 ≤ 9223372036854775807 by have h1 := w2.cap; have h2 := w2.max; unfold maxLen at h2; omega)
  clear w0 w1 w2 hG
  by_cases g1 : 9000 < n
  · go_enter Tryd.func11, Tryd.ntmps11
    go_wp2_with fail
    refine (mhead_ok _ HG.out).mono ?_
    rintro e w1 ⟨rfl, hb1⟩
    go_wp2_with fail
    go_ret
    exact ⟨rfl, hb1⟩
  by_cases g2 : 9000 < n'
  · go_enter Tryd.func11, Tryd.ntmps11
    go_wp2_with fail
    refine (mhead_ok _ HG.out).mono ?_
    rintro e w1 ⟨rfl, hb1⟩
    go_wp2_with fail
    go_ret
    exact ⟨rfl, hb1⟩
  have HN := Lib.hid (show n ≤ 1099511627776 by omega)
  have HN' := Lib.hid (show n' ≤ 549755813888 by omega)
  have HGW := Lib.hid (show ∀ u, Below W.heap.size W u → Gl u from fun u hu => HG.out.below hu HG.out.size)
  have HRW := Lib.hid (show ∀ u, Below W.heap.size W u → Rb u u.heap.size A l from fun u hu => (HI.out.rb.below hu (Nat.le_refl _)).more hu.size)
  have HRW2 := Lib.hid (show ∀ u, Below W.heap.size W u → Rb u u.heap.size A' l' from fun u hu => (HI2.out.rb.below hu (Nat.le_refl _)).more hu.size)
  have HRWS := Lib.hid (show ∀ u, Below W.heap.size W u → Rs u u.heap.size A2 ws from fun u hu => (HSI.out.rs.below hu (Nat.le_refl _)).more hu.size)
  have HE := Lib.hid (show (Tryd.prog.info? 26).map (·.size) = some (bcells (macB l l')).size by rw [bcells_size, macB_len]; kernel_rfl)
  have HE2 := Lib.hid (show (bcells (List.replicate 32 0)).size = (bcells (macB l l')).size by rw [bcells_size, bcells_size, macB_len, List.length_replicate])
  go_enter Tryd.func11, Tryd.ntmps11
  go_wp2_with fail
  refine (mhead_ok _ HG.out).mono ?_
  rintro e w1 ⟨rfl, hb1⟩
  have HB1 := Lib.hid hb1
  clear hb1
  go_wp2_with fail
  refine (great_ok A2 n2 c2 ws _ HSI.out.len HC2.out (HRWS.out _ HB1.out)).mono ?_
  rintro e w2 ⟨v, rfl, hv, hb2⟩
  have HB2 := Lib.hid (HB1.out.trans (hb2.mono HB1.out.size))
  clear hb2
  cases v with
  | true =>
    go_wp2_with fail
    go_ret
    exact ⟨rfl, HB2.out⟩
  | false =>
  have HSM := Lib.hid (gs_small ws (hv rfl))
  clear hv
  have HSN := Lib.hid (show n2 ≤ 1099511627776 by have h1 := HSM.out.1; rw [HSI.out.len] at h1; omega)
  have HSS := Lib.hid (show ∀ x ∈ ws, x.size ≤ 140737488355328 from fun x hx => by have := HSM.out.2.1 x hx; omega)
  have HTX := Lib.hid (show (textsB ws).length ≤ 549755813888 by have := HSM.out.2.2; omega)
  have HSTR1 := Lib.hid (show ∀ u, Below W.heap.size W u → (convert 22 9 (.slice A n c)).run Tryd.prog u = .ok (.string ⟨l.toArray⟩) u from fun u hu => str_of (P := Tryd.prog) (HRW.out u hu) 22 5 9 Tryd.underlying22 Tryd.underlying5 Tryd.underlying9 n c HI.out.len)
  have HSTR2 := Lib.hid (show ∀ u, Below W.heap.size W u → (convert 22 9 (.slice A' n' c')).run Tryd.prog u = .ok (.string ⟨l'.toArray⟩) u from fun u hu => str_of (P := Tryd.prog) (HRW2.out u hu) 22 5 9 Tryd.underlying22 Tryd.underlying5 Tryd.underlying9 n' c' HI2.out.len)
  obtain ⟨BK, hBK⟩ : ∃ B : ByteArray, B = ⟨l.toArray⟩ := ⟨_, rfl⟩
  obtain ⟨BS, hBS⟩ : ∃ B : ByteArray, B = ⟨l'.toArray⟩ := ⟨_, rfl⟩
  obtain ⟨PB, hPB⟩ : ∃ B : ByteArray, B = ⟨(proofB l ws).toArray⟩ := ⟨_, rfl⟩
  rw [← hBK] at HSTR1
  rw [← hBS] at HSTR2
  have HPB := Lib.hid hPB
  have HBTBK := Lib.hid (show BK.data.toList = l by rw [hBK])
  have HBTBS := Lib.hid (show BS.data.toList = l' by rw [hBS])
  have HBSBK := Lib.hid (show l.length = BK.size by rw [← HBTBK.out]; rfl)
  have HBSBS := Lib.hid (show l'.length = BS.size by rw [← HBTBS.out]; rfl)
  have HBMBK := Lib.hid (show BK.size ≤ 1099511627776 by rw [← HBSBK.out, HI.out.len]; exact HN.out)
  have HBNBS := Lib.hid (show BS.size ≤ 549755813888 by rw [← HBSBS.out, HI2.out.len]; exact HN'.out)
  have HBMBS := Lib.hid (show BS.size ≤ 1099511627776 by have := HBNBS.out; omega)
  clear hBK hBS hPB
  have hs1 := HSTR1.out _ HB2.out
  have hs2 := HSTR2.out _ HB2.out
  go_wp2_with fail
  refine (mac_ok A n c l A' n' c' l' _ HI.out.len HI.out.cap HI.out.max HN.out (HRW.out _ HB2.out) HI2.out.len HN'.out (HRW2.out _ HB2.out) HI2.out.nil_ (HGW.out _ HB2.out)).mono ?_
  rintro e w3 ⟨rfl, hb3⟩
  have HB3 := Lib.hid (HB2.out.trans (hb3.mono HB2.out.size))
  clear hb3 hs1 hs2 HB2 HB1
  go_upto_region 7 with (refine wpList_store_row rfl 26 (.tmp 10) (.tmp 31) rfl w3.heap.size _ rfl rfl 26 _ (zeros_new w3) HE.out HE2.out (bcells_one _) ?_)
  refine gen_world (fun u => Bk u w3.heap.size 26 (bcells (macB l l')) ∧ Below W.heap.size W u) ⟨(zeros_new w3).setRow _, Below.setRow (HB3.out.alloc HB3.out.size _) _ HB3.out.size _⟩ (fun w4 hw4 => ?_)
  obtain ⟨gx, hgx⟩ : ∃ g, g = w3.heap.size := ⟨_, rfl⟩
  rw [← hgx] at hw4 ⊢
  have HK4 := Lib.hid hw4.1
  have HB4 := Lib.hid hw4.2
  clear hw4 hgx HB3
  go_wp2_with fail
  refine (proof_ok A' n' c' l' A2 n2 c2 ws _ HI2.out.len HI2.out.cap HI2.out.max (by have := HN'.out; omega) (HRW2.out _ HB4.out) HSI.out.len HSN.out (HRWS.out _ HB4.out) HSS.out HTX.out (HGW.out _ HB4.out)).mono ?_
  rintro e w5 ⟨rfl, hb5⟩
  have HK5 := Lib.hid (HK4.out.below hb5 HK4.out.lt)
  have HB5 := Lib.hid (HB4.out.trans (hb5.mono HB4.out.size))
  clear hb5 HK4 HB4
  go_wp2_with fail
  obtain ⟨S, hS⟩ : ∃ S : World → Prop, S = fun u => Below w5.heap.size w5 u := ⟨_, rfl⟩
  have HS0 := Lib.hid (show S w5.drew by rw [hS]; exact (Below.refl _ _).drew)
  have HSW := Lib.hid (show ∀ u u', S u → Below u.heap.size u u' → S u' by rw [hS]; exact fun u u' h hb => h.trans (hb.mono h.size))
  have HDN := Lib.hid (show ∀ u, S u → Below W.heap.size W u by rw [hS]; exact fun u hu => HB5.out.trans (hu.mono HB5.out.size))
  have HKX := Lib.hid (show ∀ u, S u → Bk u gx 26 (bcells (macB l l')) by rw [hS]; exact fun u hu => HK5.out.below hu HK5.out.lt)
  have HDR := Lib.hid (show ∀ u ob, S u → S (u.drew.alloc ob) by rw [hS]; exact fun u ob hu => hu.drew.alloc hu.size _)
  clear hS
  have HCV1 := Lib.hid (show ∀ u, S u → (convert 22 9 (.slice A n c)).run Tryd.prog u = .ok (.string BK) u from fun u hu => HSTR1.out u (HDN.out u hu))
  have HCV2 := Lib.hid (show ∀ u, S u → (convert 22 9 (.slice A' n' c')).run Tryd.prog u = .ok (.string BS) u from fun u hu => HSTR2.out u (HDN.out u hu))
  have HGL := Lib.hid (show ∀ u, S u → Gl u from fun u hu => HGW.out u (HDN.out u hu))
  have HRA := Lib.hid (show ∀ u, S u → Rb u u.heap.size A l from fun u hu => HRW.out u (HDN.out u hu))
  have HRS := Lib.hid (show ∀ u, S u → Rs u u.heap.size A2 ws from fun u hu => HRWS.out u (HDN.out u hu))
  have HEQ := Lib.hid (show ∀ (ops : Array Oper) (oi : Oper) (a : Act) {x y : Operand} {d : TypeId}, Region.wanted oi (yielded ops a.tmps) = true → oi.op = .binOp .eql 26 x y d → a.eval x = .agg (bcells (macB l l')) → a.eval y = .agg (bcells (macB l l')) → YieldsIf Tryd.prog ops S oi (.bool true) a from
    fun ops oi a x y d hw ho hx hy => .inl ⟨hw, fun w _ => by
      have h := eq_arr (macB l l') (macB_len _ _) x y w
      unfold execOp
      simp only [ho, hx, hy]
      rw [Sem.run_bind, h]
      rfl⟩)
  try simp only [List.cons_append, List.nil_append]
  refine wp_region_held_drew (S := S) (by kernel_rfl) (HS0.out) (fun hHeld => ?_)
  refine take_at (some 35) (i := 0) (v := ?_) rfl rfl (by kernel_rfl) (by kernel_rfl) (by kernel_rfl) (fun _ _ _ h => h) (Or.inl ⟨by kernel_rfl, ?_⟩) hHeld ?_
  rotate_left
  · intro wz hSw; go_simp; try (with_reducible rfl)
  try simp only [Act.put, List.setIfInBounds_toArray, List.set_cons_zero, List.set_cons_succ, List.getElem_toArray, List.getElem_cons_succ, List.getElem_cons_zero]
  refine take_at (some 36) (i := 1) (v := ?_) rfl rfl (by kernel_rfl) (by kernel_rfl) (by kernel_rfl) (fun _ _ _ h => h) (Or.inl ⟨by kernel_rfl, ?_⟩) hHeld ?_
  rotate_left
  · intro wz hSw; go_simp; try (with_reducible rfl)
  try simp only [Act.put, List.setIfInBounds_toArray, List.set_cons_zero, List.set_cons_succ, List.getElem_toArray, List.getElem_cons_succ, List.getElem_cons_zero]
  refine take_at (some 37) (i := 2) (v := ?_) rfl rfl (by kernel_rfl) (by kernel_rfl) (by kernel_rfl) (fun _ _ _ h => h) (Or.inl ⟨by kernel_rfl, ?_⟩) hHeld ?_
  rotate_left
  · intro wz hSw; go_simp; try (with_reducible rfl)
  try simp only [Act.put, List.setIfInBounds_toArray, List.set_cons_zero, List.set_cons_succ, List.getElem_toArray, List.getElem_cons_succ, List.getElem_cons_zero]
  refine take_at (some 38) (i := 3) (v := ?_) rfl rfl (by kernel_rfl) (by kernel_rfl) (by kernel_rfl) (fun _ _ _ h => h) (Or.inl ⟨by kernel_rfl, ?_⟩) hHeld ?_
  rotate_left
  · intro wz hSw; have hcv := HCV1.out wz hSw; go_simp; try (with_reducible rfl)
  try simp only [Act.put, List.setIfInBounds_toArray, List.set_cons_zero, List.set_cons_succ, List.getElem_toArray, List.getElem_cons_succ, List.getElem_cons_zero]
  refine take_at (some 39) (i := 4) (v := ?_) rfl rfl (by kernel_rfl) (by kernel_rfl) (by kernel_rfl) (fun _ _ _ h => h) (Or.inl ⟨by kernel_rfl, ?_⟩) hHeld ?_
  rotate_left
  · intro wz hSw; go_simp; try (with_reducible rfl)
  try simp only [Act.put, List.setIfInBounds_toArray, List.set_cons_zero, List.set_cons_succ, List.getElem_toArray, List.getElem_cons_succ, List.getElem_cons_zero]
  refine take_at (some 40) (i := 5) (v := ?_) rfl rfl (by kernel_rfl) (by kernel_rfl) (by kernel_rfl) (fun _ _ _ h => h) (Or.inl ⟨by kernel_rfl, ?_⟩) hHeld ?_
  rotate_left
  · intro wz hSw; go_simp; try (with_reducible rfl)
  try simp only [Act.put, List.setIfInBounds_toArray, List.set_cons_zero, List.set_cons_succ, List.getElem_toArray, List.getElem_cons_succ, List.getElem_cons_zero]
  refine take_at (some 41) (i := 6) (v := ?_) rfl rfl (by kernel_rfl) (by kernel_rfl) (by kernel_rfl) (fun _ _ _ h => h) (Or.inl ⟨by kernel_rfl, ?_⟩) hHeld ?_
  rotate_left
  · intro wz hSw; go_simp; try (with_reducible rfl)
  try simp only [Act.put, List.setIfInBounds_toArray, List.set_cons_zero, List.set_cons_succ, List.getElem_toArray, List.getElem_cons_succ, List.getElem_cons_zero]
  refine take_at (some 42) (i := 7) (v := ?_) rfl rfl (by kernel_rfl) (by kernel_rfl) (by kernel_rfl) (fun _ _ _ h => h) (Or.inl ⟨by kernel_rfl, ?_⟩) hHeld ?_
  rotate_left
  · intro wz hSw; go_simp; try (with_reducible rfl)
  try simp only [Act.put, List.setIfInBounds_toArray, List.set_cons_zero, List.set_cons_succ, List.getElem_toArray, List.getElem_cons_succ, List.getElem_cons_zero]
  refine take_at (some 43) (i := 8) (v := ?_) rfl rfl (by kernel_rfl) (by kernel_rfl) (by kernel_rfl) (fun _ _ _ h => h) (Or.inl ⟨by kernel_rfl, ?_⟩) hHeld ?_
  rotate_left
  · intro wz hSw; go_simp; try (with_reducible rfl)
  try simp only [Act.put, List.setIfInBounds_toArray, List.set_cons_zero, List.set_cons_succ, List.getElem_toArray, List.getElem_cons_succ, List.getElem_cons_zero]
  refine take_at (some 44) (i := 9) (v := ?_) rfl rfl (by kernel_rfl) (by kernel_rfl) (by kernel_rfl) (fun _ _ _ h => h) (Or.inl ⟨by kernel_rfl, ?_⟩) hHeld ?_
  rotate_left
  · intro wz hSw; have hcv := HCV2.out wz hSw; go_simp; try (with_reducible rfl)
  try simp only [Act.put, List.setIfInBounds_toArray, List.set_cons_zero, List.set_cons_succ, List.getElem_toArray, List.getElem_cons_succ, List.getElem_cons_zero]
  refine take_at (some 45) (i := 10) (v := ?_) rfl rfl (by kernel_rfl) (by kernel_rfl) (by kernel_rfl) (fun _ _ _ h => h) (Or.inl ⟨by kernel_rfl, ?_⟩) hHeld ?_
  rotate_left
  · intro wz hSw; go_simp; try (with_reducible rfl)
  try simp only [Act.put, List.setIfInBounds_toArray, List.set_cons_zero, List.set_cons_succ, List.getElem_toArray, List.getElem_cons_succ, List.getElem_cons_zero]
  refine take_at (some 46) (i := 11) (v := ?_) rfl rfl (by kernel_rfl) (by kernel_rfl) (by kernel_rfl) (fun _ _ _ h => h) (Or.inl ⟨by kernel_rfl, ?_⟩) hHeld ?_
  rotate_left
  · intro wz hSw; go_simp; try (with_reducible rfl)
  try simp only [Act.put, List.setIfInBounds_toArray, List.set_cons_zero, List.set_cons_succ, List.getElem_toArray, List.getElem_cons_succ, List.getElem_cons_zero]
  refine take_at (some 47) (i := 12) (v := ?_) rfl rfl (by kernel_rfl) (by kernel_rfl) (by kernel_rfl) (fun _ _ _ h => h) (Or.inl ⟨by kernel_rfl, ?_⟩) hHeld ?_
  rotate_left
  · intro wz hSw; go_simp; try (with_reducible rfl)
  try simp only [Act.put, List.setIfInBounds_toArray, List.set_cons_zero, List.set_cons_succ, List.getElem_toArray, List.getElem_cons_succ, List.getElem_cons_zero]
  refine take_at (some 48) (i := 13) (v := ?_) rfl rfl (by kernel_rfl) (by kernel_rfl) (by kernel_rfl) (fun _ _ _ h => h) (Or.inl ⟨by kernel_rfl, ?_⟩) hHeld ?_
  rotate_left
  · intro wz hSw; go_simp; try (with_reducible rfl)
  try simp only [Act.put, List.setIfInBounds_toArray, List.set_cons_zero, List.set_cons_succ, List.getElem_toArray, List.getElem_cons_succ, List.getElem_cons_zero]
  refine take_at (some 49) (i := 14) (v := ?_) rfl rfl (by kernel_rfl) (by kernel_rfl) (by kernel_rfl) (fun _ _ _ h => h) (Or.inl ⟨by kernel_rfl, ?_⟩) hHeld ?_
  rotate_left
  · intro wz hSw; go_simp; try (with_reducible rfl)
  try simp only [Act.put, List.setIfInBounds_toArray, List.set_cons_zero, List.set_cons_succ, List.getElem_toArray, List.getElem_cons_succ, List.getElem_cons_zero]
  refine take_at (some 51) (i := 16) (v := ?_) rfl rfl (by kernel_rfl) (by kernel_rfl) (by kernel_rfl) (fun _ _ _ h => h) (Or.inl ⟨by kernel_rfl, ?_⟩) hHeld ?_
  rotate_left
  · intro wz hSw; go_simp; try (with_reducible rfl)
  try simp only [Act.put, List.setIfInBounds_toArray, List.set_cons_zero, List.set_cons_succ, List.getElem_toArray, List.getElem_cons_succ, List.getElem_cons_zero]
  refine take_at (some 54) (i := 19) rfl rfl (by kernel_rfl) (by kernel_rfl) (by kernel_rfl) (fun _ _ _ h => h) (yieldsIf_load_row (by kernel_rfl) 26 (.tmp 10) rfl gx rfl 26 _ (fun u hu => HKX.out u hu) Tryd.underlying26 rfl HE.out) hHeld ?_
  try simp only [Act.put, List.setIfInBounds_toArray, List.set_cons_zero, List.set_cons_succ, List.getElem_toArray, List.getElem_cons_succ, List.getElem_cons_zero]
  refine gen_any2 S hHeld (fun u0 hHeld => ?_)
  refine wpAnyH_ready (rs := [15, 17]) (by kernel_rfl) (by simp) (AllReadyH.cons rfl (fun K hK => ?_) (AllReadyH.cons rfl (fun K hK => ?_) AllReadyH.nil))
  · rw [if_pos (by kernel_rfl)]
    obtain ⟨capa, oba, hcb, hcapa, hcapb, hRB⟩ := conv_back BK HBMBK.out u0
    have HCAa := Lib.hid (And.intro hcapa hcapb)
    clear hcapa hcapb
    go_simp
    try dsimp only
    refine hK.out _ _ (HDR.out _ oba hHeld) (fun hHeld => ?_)
    try simp only [Act.put, List.setIfInBounds_toArray, List.set_cons_zero, List.set_cons_succ, List.getElem_toArray, List.getElem_cons_succ, List.getElem_cons_zero]
    clear hcb
    refine gen_any2 (fun u => S u ∧ Rb u u.heap.size (some ⟨u0.heap.size, 0, none⟩) l) ⟨hHeld, by rw [← HBTBK.out]; exact hRB⟩ (fun u1 hw => ?_)
    clear hHeld hRB
    have hHeld := hw.1
    have HRCa := Lib.hid hw.2
    clear hw
    refine wpAnyH_ready (rs := [17]) (by kernel_rfl) (by simp) (AllReadyH.cons rfl (fun K hK => ?_) AllReadyH.nil)
    rw [if_pos (by kernel_rfl)]
    obtain ⟨capb, obb, hcb, hcapa, hcapb, hRB⟩ := conv_back BS HBMBS.out u1
    have HCAb := Lib.hid (And.intro hcapa hcapb)
    clear hcapa hcapb
    go_simp
    try dsimp only
    refine hK.out _ _ (HDR.out _ obb hHeld) (fun hHeld => ?_)
    try simp only [Act.put, List.setIfInBounds_toArray, List.set_cons_zero, List.set_cons_succ, List.getElem_toArray, List.getElem_cons_succ, List.getElem_cons_zero]
    clear hcb
    refine gen_any2 (fun u => S u ∧ Rb u u.heap.size (some ⟨u1.heap.size, 0, none⟩) l' ∧ Rb u u.heap.size (some ⟨u0.heap.size, 0, none⟩) l) ⟨hHeld, by rw [← HBTBS.out]; exact hRB, (HRCa.out.below (show Below u1.heap.size u1 (u1.drew.alloc obb) from (Below.refl _ _).drew.alloc (Nat.le_refl _) _) (Nat.le_refl _)).more (show u1.heap.size ≤ (u1.heap.push _).size by rw [Array.size_push]; omega)⟩ (fun u2 hw => ?_)
    clear hHeld hRB
    have hHeld := hw.1
    have HRCb := Lib.hid hw.2.1
    replace HRCa := Lib.hid hw.2.2
    clear hw
    refine wpAnyH_ready (rs := [18]) (by kernel_rfl) (by simp) (AllReadyH.cons rfl (fun K hK => ?_) AllReadyH.nil)
    rw [if_pos (by kernel_rfl)]
    go_simp
    refine (mac_ok (some ⟨u0.heap.size, 0, none⟩) BK.size capa l (some ⟨u1.heap.size, 0, none⟩) BS.size capb l' _ HBSBK.out HCAa.out.1 HCAa.out.2 HBMBK.out HRCa.out HBSBS.out HBNBS.out HRCb.out (by intro h; cases h) (HGL.out _ hHeld)).mono ?_
    rintro e u3 ⟨rfl, hb⟩
    have HSu3 := Lib.hid (HSW.out _ _ hHeld hb)
    clear hb hHeld
    try dsimp only
    refine hK.out _ _ HSu3.out (fun hHeld => ?_)
    try simp only [Act.put, List.setIfInBounds_toArray, List.set_cons_zero, List.set_cons_succ, List.getElem_toArray, List.getElem_cons_succ, List.getElem_cons_zero]
    refine take_at (some 55) (i := 20) rfl rfl (by kernel_rfl) (by kernel_rfl) (by kernel_rfl) (fun _ _ _ h => h) (HEQ.out _ _ _ (by kernel_rfl) rfl rfl rfl) hHeld ?_
    try simp only [Act.put, List.setIfInBounds_toArray, List.set_cons_zero, List.set_cons_succ, List.getElem_toArray, List.getElem_cons_succ, List.getElem_cons_zero]
    refine take_at (some 56) (i := 21) (v := ?_) rfl rfl (by kernel_rfl) (by kernel_rfl) (by kernel_rfl) (fun _ _ _ h => h) (Or.inl ⟨by kernel_rfl, ?_⟩) hHeld ?_
    rotate_left
    · intro wz hSw; go_simp; try (with_reducible rfl)
    try simp only [Act.put, List.setIfInBounds_toArray, List.set_cons_zero, List.set_cons_succ, List.getElem_toArray, List.getElem_cons_succ, List.getElem_cons_zero]
    refine take_at (some 57) (i := 22) (v := ?_) rfl rfl (by kernel_rfl) (by kernel_rfl) (by kernel_rfl) (fun _ _ _ h => h) (Or.inl ⟨by kernel_rfl, ?_⟩) hHeld ?_
    rotate_left
    · intro wz hSw; go_simp; try (with_reducible rfl)
    try simp only [Act.put, List.setIfInBounds_toArray, List.set_cons_zero, List.set_cons_succ, List.getElem_toArray, List.getElem_cons_succ, List.getElem_cons_zero]
    refine take_at (some 58) (i := 23) (v := ?_) rfl rfl (by kernel_rfl) (by kernel_rfl) (by kernel_rfl) (fun _ _ _ h => h) (Or.inl ⟨by kernel_rfl, ?_⟩) hHeld ?_
    rotate_left
    · intro wz hSw; go_simp; try (with_reducible rfl)
    try simp only [Act.put, List.setIfInBounds_toArray, List.set_cons_zero, List.set_cons_succ, List.getElem_toArray, List.getElem_cons_succ, List.getElem_cons_zero]
    refine take_at (some 59) (i := 24) (v := ?_) rfl rfl (by kernel_rfl) (by kernel_rfl) (by kernel_rfl) (fun _ _ _ h => h) (Or.inl ⟨by kernel_rfl, ?_⟩) hHeld ?_
    rotate_left
    · intro wz hSw; go_simp; try (with_reducible rfl)
    try simp only [Act.put, List.setIfInBounds_toArray, List.set_cons_zero, List.set_cons_succ, List.getElem_toArray, List.getElem_cons_succ, List.getElem_cons_zero]
    refine take_at (some 61) (i := 26) (v := ?_) rfl rfl (by kernel_rfl) (by kernel_rfl) (by kernel_rfl) (fun _ _ _ h => h) (Or.inl ⟨by kernel_rfl, ?_⟩) hHeld ?_
    rotate_left
    · intro wz hSw; go_simp; try (with_reducible rfl)
    try simp only [Act.put, List.setIfInBounds_toArray, List.set_cons_zero, List.set_cons_succ, List.getElem_toArray, List.getElem_cons_succ, List.getElem_cons_zero]
    refine take_at (some 63) (i := 28) (v := ?_) rfl rfl (by kernel_rfl) (by kernel_rfl) (by kernel_rfl) (fun _ _ _ h => h) (Or.inl ⟨by kernel_rfl, ?_⟩) hHeld ?_
    rotate_left
    · intro wz hSw; go_simp; try (with_reducible rfl)
    try simp only [Act.put, List.setIfInBounds_toArray, List.set_cons_zero, List.set_cons_succ, List.getElem_toArray, List.getElem_cons_succ, List.getElem_cons_zero]
    refine wpAnyH_ready (rs := [25, 27]) (by kernel_rfl) (by simp) (AllReadyH.cons rfl (fun K hK => ?_) (AllReadyH.cons rfl (fun K hK => ?_) AllReadyH.nil))
    · rw [if_pos (by kernel_rfl)]
      go_simp
      refine (proof_ok A n c l A2 n2 c2 ws _ HI.out.len HI.out.cap HI.out.max HN.out (HRA.out _ hHeld) HSI.out.len HSN.out (HRS.out _ hHeld) HSS.out HTX.out (HGL.out _ hHeld)).mono ?_
      rintro e xp1 ⟨rfl, hb⟩
      rw [← HPB.out]
      have HSxp1 := Lib.hid (HSW.out _ _ hHeld hb)
      clear hb hHeld
      try dsimp only
      refine hK.out _ _ HSxp1.out (fun hHeld => ?_)
      try simp only [Act.put, List.setIfInBounds_toArray, List.set_cons_zero, List.set_cons_succ, List.getElem_toArray, List.getElem_cons_succ, List.getElem_cons_zero]
      refine wpAnyH_ready (rs := [27]) (by kernel_rfl) (by simp) (AllReadyH.cons rfl (fun K hK => ?_) AllReadyH.nil)
      rw [if_pos (by kernel_rfl)]
      obtain ⟨cappc, obpc, hcb, hcapa, hcapb, hRB⟩ := conv_back BK HBMBK.out xp1
      have HCApc := Lib.hid (And.intro hcapa hcapb)
      clear hcapa hcapb
      go_simp
      try dsimp only
      refine hK.out _ _ (HDR.out _ obpc hHeld) (fun hHeld => ?_)
      try simp only [Act.put, List.setIfInBounds_toArray, List.set_cons_zero, List.set_cons_succ, List.getElem_toArray, List.getElem_cons_succ, List.getElem_cons_zero]
      clear hcb
      refine gen_any2 (fun u => S u ∧ Rb u u.heap.size (some ⟨xp1.heap.size, 0, none⟩) l) ⟨hHeld, by rw [← HBTBK.out]; exact hRB⟩ (fun xp2 hw => ?_)
      clear hHeld hRB
      have hHeld := hw.1
      have HRCpc := Lib.hid hw.2
      clear hw
      refine wpAnyH_ready (rs := [29]) (by kernel_rfl) (by simp) (AllReadyH.cons rfl (fun K hK => ?_) AllReadyH.nil)
      rw [if_pos (by kernel_rfl)]
      go_simp
      refine (proof_ok (some ⟨xp1.heap.size, 0, none⟩) BK.size cappc l A2 n2 c2 ws _ HBSBK.out HCApc.out.1 HCApc.out.2 HBMBK.out HRCpc.out HSI.out.len HSN.out (HRS.out _ hHeld) HSS.out HTX.out (HGL.out _ hHeld)).mono ?_
      rintro e xp3 ⟨rfl, hb⟩
      rw [← HPB.out]
      have HSxp3 := Lib.hid (HSW.out _ _ hHeld hb)
      clear hb hHeld
      try dsimp only
      refine hK.out _ _ HSxp3.out (fun hHeld => ?_)
      try simp only [Act.put, List.setIfInBounds_toArray, List.set_cons_zero, List.set_cons_succ, List.getElem_toArray, List.getElem_cons_succ, List.getElem_cons_zero]
      refine take_at (some 65) (i := 30) (v := ?_) rfl rfl (by kernel_rfl) (by kernel_rfl) (by kernel_rfl) (fun _ _ _ h => h) (Or.inl ⟨by kernel_rfl, ?_⟩) hHeld ?_
      rotate_left
      · intro wz hSw; go_simp; try (with_reducible rfl)
      try simp only [Act.put, List.setIfInBounds_toArray, List.set_cons_zero, List.set_cons_succ, List.getElem_toArray, List.getElem_cons_succ, List.getElem_cons_zero]
      refine take_at (some 66) (i := 31) (v := ?_) rfl rfl (by kernel_rfl) (by kernel_rfl) (by kernel_rfl) (fun _ _ _ h => h) (Or.inl ⟨by kernel_rfl, ?_⟩) hHeld ?_
      rotate_left
      · intro wz hSw; go_simp; try (with_reducible rfl)
      try simp only [Act.put, List.setIfInBounds_toArray, List.set_cons_zero, List.set_cons_succ, List.getElem_toArray, List.getElem_cons_succ, List.getElem_cons_zero]
      refine take_at (some 6) (i := 32) (v := ?_) rfl rfl (by kernel_rfl) (by kernel_rfl) (by kernel_rfl) (fun _ _ _ h => h) (Or.inl ⟨by kernel_rfl, ?_⟩) hHeld ?_
      rotate_left
      · intro wz hSw; go_simp; try (with_reducible rfl)
      try simp only [Act.put, List.setIfInBounds_toArray, List.set_cons_zero, List.set_cons_succ, List.getElem_toArray, List.getElem_cons_succ, List.getElem_cons_zero]
      refine wpAnyH_done (by kernel_rfl) ?_ _
      go_wp2_with fail
      go_ret
      exact ⟨rfl, HDN.out _ hHeld⟩
    · rw [if_pos (by kernel_rfl)]
      obtain ⟨cappc, obpc, hcb, hcapa, hcapb, hRB⟩ := conv_back BK HBMBK.out u3
      have HCApc := Lib.hid (And.intro hcapa hcapb)
      clear hcapa hcapb
      go_simp
      try dsimp only
      refine hK.out _ _ (HDR.out _ obpc hHeld) (fun hHeld => ?_)
      try simp only [Act.put, List.setIfInBounds_toArray, List.set_cons_zero, List.set_cons_succ, List.getElem_toArray, List.getElem_cons_succ, List.getElem_cons_zero]
      clear hcb
      refine gen_any2 (fun u => S u ∧ Rb u u.heap.size (some ⟨u3.heap.size, 0, none⟩) l) ⟨hHeld, by rw [← HBTBK.out]; exact hRB⟩ (fun yp1 hw => ?_)
      clear hHeld hRB
      have hHeld := hw.1
      have HRCpc := Lib.hid hw.2
      clear hw
      refine wpAnyH_ready (rs := [25]) (by kernel_rfl) (by simp) (AllReadyH.cons rfl (fun K hK => ?_) AllReadyH.nil)
      rw [if_pos (by kernel_rfl)]
      go_simp
      refine (proof_ok A n c l A2 n2 c2 ws _ HI.out.len HI.out.cap HI.out.max HN.out (HRA.out _ hHeld) HSI.out.len HSN.out (HRS.out _ hHeld) HSS.out HTX.out (HGL.out _ hHeld)).mono ?_
      rintro e yp2 ⟨rfl, hb⟩
      rw [← HPB.out]
      replace HRCpc := Lib.hid ((HRCpc.out.below hb (Nat.le_refl _)).more hb.size)
      have HSyp2 := Lib.hid (HSW.out _ _ hHeld hb)
      clear hb hHeld
      try dsimp only
      refine hK.out _ _ HSyp2.out (fun hHeld => ?_)
      try simp only [Act.put, List.setIfInBounds_toArray, List.set_cons_zero, List.set_cons_succ, List.getElem_toArray, List.getElem_cons_succ, List.getElem_cons_zero]
      refine wpAnyH_ready (rs := [29]) (by kernel_rfl) (by simp) (AllReadyH.cons rfl (fun K hK => ?_) AllReadyH.nil)
      rw [if_pos (by kernel_rfl)]
      go_simp
      refine (proof_ok (some ⟨u3.heap.size, 0, none⟩) BK.size cappc l A2 n2 c2 ws _ HBSBK.out HCApc.out.1 HCApc.out.2 HBMBK.out HRCpc.out HSI.out.len HSN.out (HRS.out _ hHeld) HSS.out HTX.out (HGL.out _ hHeld)).mono ?_
      rintro e yp3 ⟨rfl, hb⟩
      rw [← HPB.out]
      have HSyp3 := Lib.hid (HSW.out _ _ hHeld hb)
      clear hb hHeld
      try dsimp only
      refine hK.out _ _ HSyp3.out (fun hHeld => ?_)
      try simp only [Act.put, List.setIfInBounds_toArray, List.set_cons_zero, List.set_cons_succ, List.getElem_toArray, List.getElem_cons_succ, List.getElem_cons_zero]
      refine take_at (some 65) (i := 30) (v := ?_) rfl rfl (by kernel_rfl) (by kernel_rfl) (by kernel_rfl) (fun _ _ _ h => h) (Or.inl ⟨by kernel_rfl, ?_⟩) hHeld ?_
      rotate_left
      · intro wz hSw; go_simp; try (with_reducible rfl)
      try simp only [Act.put, List.setIfInBounds_toArray, List.set_cons_zero, List.set_cons_succ, List.getElem_toArray, List.getElem_cons_succ, List.getElem_cons_zero]
      refine take_at (some 66) (i := 31) (v := ?_) rfl rfl (by kernel_rfl) (by kernel_rfl) (by kernel_rfl) (fun _ _ _ h => h) (Or.inl ⟨by kernel_rfl, ?_⟩) hHeld ?_
      rotate_left
      · intro wz hSw; go_simp; try (with_reducible rfl)
      try simp only [Act.put, List.setIfInBounds_toArray, List.set_cons_zero, List.set_cons_succ, List.getElem_toArray, List.getElem_cons_succ, List.getElem_cons_zero]
      refine take_at (some 6) (i := 32) (v := ?_) rfl rfl (by kernel_rfl) (by kernel_rfl) (by kernel_rfl) (fun _ _ _ h => h) (Or.inl ⟨by kernel_rfl, ?_⟩) hHeld ?_
      rotate_left
      · intro wz hSw; go_simp; try (with_reducible rfl)
      try simp only [Act.put, List.setIfInBounds_toArray, List.set_cons_zero, List.set_cons_succ, List.getElem_toArray, List.getElem_cons_succ, List.getElem_cons_zero]
      refine wpAnyH_done (by kernel_rfl) ?_ _
      go_wp2_with fail
      go_ret
      exact ⟨rfl, HDN.out _ hHeld⟩
  · rw [if_pos (by kernel_rfl)]
    obtain ⟨capb, obb, hcb, hcapa, hcapb, hRB⟩ := conv_back BS HBMBS.out u0
    have HCAb := Lib.hid (And.intro hcapa hcapb)
    clear hcapa hcapb
    go_simp
    try dsimp only
    refine hK.out _ _ (HDR.out _ obb hHeld) (fun hHeld => ?_)
    try simp only [Act.put, List.setIfInBounds_toArray, List.set_cons_zero, List.set_cons_succ, List.getElem_toArray, List.getElem_cons_succ, List.getElem_cons_zero]
    clear hcb
    refine gen_any2 (fun u => S u ∧ Rb u u.heap.size (some ⟨u0.heap.size, 0, none⟩) l') ⟨hHeld, by rw [← HBTBS.out]; exact hRB⟩ (fun u1 hw => ?_)
    clear hHeld hRB
    have hHeld := hw.1
    have HRCb := Lib.hid hw.2
    clear hw
    refine wpAnyH_ready (rs := [15]) (by kernel_rfl) (by simp) (AllReadyH.cons rfl (fun K hK => ?_) AllReadyH.nil)
    rw [if_pos (by kernel_rfl)]
    obtain ⟨capa, oba, hcb, hcapa, hcapb, hRB⟩ := conv_back BK HBMBK.out u1
    have HCAa := Lib.hid (And.intro hcapa hcapb)
    clear hcapa hcapb
    go_simp
    try dsimp only
    refine hK.out _ _ (HDR.out _ oba hHeld) (fun hHeld => ?_)
    try simp only [Act.put, List.setIfInBounds_toArray, List.set_cons_zero, List.set_cons_succ, List.getElem_toArray, List.getElem_cons_succ, List.getElem_cons_zero]
    clear hcb
    refine gen_any2 (fun u => S u ∧ Rb u u.heap.size (some ⟨u1.heap.size, 0, none⟩) l ∧ Rb u u.heap.size (some ⟨u0.heap.size, 0, none⟩) l') ⟨hHeld, by rw [← HBTBK.out]; exact hRB, (HRCb.out.below (show Below u1.heap.size u1 (u1.drew.alloc oba) from (Below.refl _ _).drew.alloc (Nat.le_refl _) _) (Nat.le_refl _)).more (show u1.heap.size ≤ (u1.heap.push _).size by rw [Array.size_push]; omega)⟩ (fun u2 hw => ?_)
    clear hHeld hRB
    have hHeld := hw.1
    have HRCa := Lib.hid hw.2.1
    replace HRCb := Lib.hid hw.2.2
    clear hw
    refine wpAnyH_ready (rs := [18]) (by kernel_rfl) (by simp) (AllReadyH.cons rfl (fun K hK => ?_) AllReadyH.nil)
    rw [if_pos (by kernel_rfl)]
    go_simp
    refine (mac_ok (some ⟨u1.heap.size, 0, none⟩) BK.size capa l (some ⟨u0.heap.size, 0, none⟩) BS.size capb l' _ HBSBK.out HCAa.out.1 HCAa.out.2 HBMBK.out HRCa.out HBSBS.out HBNBS.out HRCb.out (by intro h; cases h) (HGL.out _ hHeld)).mono ?_
    rintro e u3 ⟨rfl, hb⟩
    have HSu3 := Lib.hid (HSW.out _ _ hHeld hb)
    clear hb hHeld
    try dsimp only
    refine hK.out _ _ HSu3.out (fun hHeld => ?_)
    try simp only [Act.put, List.setIfInBounds_toArray, List.set_cons_zero, List.set_cons_succ, List.getElem_toArray, List.getElem_cons_succ, List.getElem_cons_zero]
    refine take_at (some 55) (i := 20) rfl rfl (by kernel_rfl) (by kernel_rfl) (by kernel_rfl) (fun _ _ _ h => h) (HEQ.out _ _ _ (by kernel_rfl) rfl rfl rfl) hHeld ?_
    try simp only [Act.put, List.setIfInBounds_toArray, List.set_cons_zero, List.set_cons_succ, List.getElem_toArray, List.getElem_cons_succ, List.getElem_cons_zero]
    refine take_at (some 56) (i := 21) (v := ?_) rfl rfl (by kernel_rfl) (by kernel_rfl) (by kernel_rfl) (fun _ _ _ h => h) (Or.inl ⟨by kernel_rfl, ?_⟩) hHeld ?_
    rotate_left
    · intro wz hSw; go_simp; try (with_reducible rfl)
    try simp only [Act.put, List.setIfInBounds_toArray, List.set_cons_zero, List.set_cons_succ, List.getElem_toArray, List.getElem_cons_succ, List.getElem_cons_zero]
    refine take_at (some 57) (i := 22) (v := ?_) rfl rfl (by kernel_rfl) (by kernel_rfl) (by kernel_rfl) (fun _ _ _ h => h) (Or.inl ⟨by kernel_rfl, ?_⟩) hHeld ?_
    rotate_left
    · intro wz hSw; go_simp; try (with_reducible rfl)
    try simp only [Act.put, List.setIfInBounds_toArray, List.set_cons_zero, List.set_cons_succ, List.getElem_toArray, List.getElem_cons_succ, List.getElem_cons_zero]
    refine take_at (some 58) (i := 23) (v := ?_) rfl rfl (by kernel_rfl) (by kernel_rfl) (by kernel_rfl) (fun _ _ _ h => h) (Or.inl ⟨by kernel_rfl, ?_⟩) hHeld ?_
    rotate_left
    · intro wz hSw; go_simp; try (with_reducible rfl)
    try simp only [Act.put, List.setIfInBounds_toArray, List.set_cons_zero, List.set_cons_succ, List.getElem_toArray, List.getElem_cons_succ, List.getElem_cons_zero]
    refine take_at (some 59) (i := 24) (v := ?_) rfl rfl (by kernel_rfl) (by kernel_rfl) (by kernel_rfl) (fun _ _ _ h => h) (Or.inl ⟨by kernel_rfl, ?_⟩) hHeld ?_
    rotate_left
    · intro wz hSw; go_simp; try (with_reducible rfl)
    try simp only [Act.put, List.setIfInBounds_toArray, List.set_cons_zero, List.set_cons_succ, List.getElem_toArray, List.getElem_cons_succ, List.getElem_cons_zero]
    refine take_at (some 61) (i := 26) (v := ?_) rfl rfl (by kernel_rfl) (by kernel_rfl) (by kernel_rfl) (fun _ _ _ h => h) (Or.inl ⟨by kernel_rfl, ?_⟩) hHeld ?_
    rotate_left
    · intro wz hSw; go_simp; try (with_reducible rfl)
    try simp only [Act.put, List.setIfInBounds_toArray, List.set_cons_zero, List.set_cons_succ, List.getElem_toArray, List.getElem_cons_succ, List.getElem_cons_zero]
    refine take_at (some 63) (i := 28) (v := ?_) rfl rfl (by kernel_rfl) (by kernel_rfl) (by kernel_rfl) (fun _ _ _ h => h) (Or.inl ⟨by kernel_rfl, ?_⟩) hHeld ?_
    rotate_left
    · intro wz hSw; go_simp; try (with_reducible rfl)
    try simp only [Act.put, List.setIfInBounds_toArray, List.set_cons_zero, List.set_cons_succ, List.getElem_toArray, List.getElem_cons_succ, List.getElem_cons_zero]
    refine wpAnyH_ready (rs := [25, 27]) (by kernel_rfl) (by simp) (AllReadyH.cons rfl (fun K hK => ?_) (AllReadyH.cons rfl (fun K hK => ?_) AllReadyH.nil))
    · rw [if_pos (by kernel_rfl)]
      go_simp
      refine (proof_ok A n c l A2 n2 c2 ws _ HI.out.len HI.out.cap HI.out.max HN.out (HRA.out _ hHeld) HSI.out.len HSN.out (HRS.out _ hHeld) HSS.out HTX.out (HGL.out _ hHeld)).mono ?_
      rintro e xq1 ⟨rfl, hb⟩
      rw [← HPB.out]
      have HSxq1 := Lib.hid (HSW.out _ _ hHeld hb)
      clear hb hHeld
      try dsimp only
      refine hK.out _ _ HSxq1.out (fun hHeld => ?_)
      try simp only [Act.put, List.setIfInBounds_toArray, List.set_cons_zero, List.set_cons_succ, List.getElem_toArray, List.getElem_cons_succ, List.getElem_cons_zero]
      refine wpAnyH_ready (rs := [27]) (by kernel_rfl) (by simp) (AllReadyH.cons rfl (fun K hK => ?_) AllReadyH.nil)
      rw [if_pos (by kernel_rfl)]
      obtain ⟨capqc, obqc, hcb, hcapa, hcapb, hRB⟩ := conv_back BK HBMBK.out xq1
      have HCAqc := Lib.hid (And.intro hcapa hcapb)
      clear hcapa hcapb
      go_simp
      try dsimp only
      refine hK.out _ _ (HDR.out _ obqc hHeld) (fun hHeld => ?_)
      try simp only [Act.put, List.setIfInBounds_toArray, List.set_cons_zero, List.set_cons_succ, List.getElem_toArray, List.getElem_cons_succ, List.getElem_cons_zero]
      clear hcb
      refine gen_any2 (fun u => S u ∧ Rb u u.heap.size (some ⟨xq1.heap.size, 0, none⟩) l) ⟨hHeld, by rw [← HBTBK.out]; exact hRB⟩ (fun xq2 hw => ?_)
      clear hHeld hRB
      have hHeld := hw.1
      have HRCqc := Lib.hid hw.2
      clear hw
      refine wpAnyH_ready (rs := [29]) (by kernel_rfl) (by simp) (AllReadyH.cons rfl (fun K hK => ?_) AllReadyH.nil)
      rw [if_pos (by kernel_rfl)]
      go_simp
      refine (proof_ok (some ⟨xq1.heap.size, 0, none⟩) BK.size capqc l A2 n2 c2 ws _ HBSBK.out HCAqc.out.1 HCAqc.out.2 HBMBK.out HRCqc.out HSI.out.len HSN.out (HRS.out _ hHeld) HSS.out HTX.out (HGL.out _ hHeld)).mono ?_
      rintro e xq3 ⟨rfl, hb⟩
      rw [← HPB.out]
      have HSxq3 := Lib.hid (HSW.out _ _ hHeld hb)
      clear hb hHeld
      try dsimp only
      refine hK.out _ _ HSxq3.out (fun hHeld => ?_)
      try simp only [Act.put, List.setIfInBounds_toArray, List.set_cons_zero, List.set_cons_succ, List.getElem_toArray, List.getElem_cons_succ, List.getElem_cons_zero]
      refine take_at (some 65) (i := 30) (v := ?_) rfl rfl (by kernel_rfl) (by kernel_rfl) (by kernel_rfl) (fun _ _ _ h => h) (Or.inl ⟨by kernel_rfl, ?_⟩) hHeld ?_
      rotate_left
      · intro wz hSw; go_simp; try (with_reducible rfl)
      try simp only [Act.put, List.setIfInBounds_toArray, List.set_cons_zero, List.set_cons_succ, List.getElem_toArray, List.getElem_cons_succ, List.getElem_cons_zero]
      refine take_at (some 66) (i := 31) (v := ?_) rfl rfl (by kernel_rfl) (by kernel_rfl) (by kernel_rfl) (fun _ _ _ h => h) (Or.inl ⟨by kernel_rfl, ?_⟩) hHeld ?_
      rotate_left
      · intro wz hSw; go_simp; try (with_reducible rfl)
      try simp only [Act.put, List.setIfInBounds_toArray, List.set_cons_zero, List.set_cons_succ, List.getElem_toArray, List.getElem_cons_succ, List.getElem_cons_zero]
      refine take_at (some 6) (i := 32) (v := ?_) rfl rfl (by kernel_rfl) (by kernel_rfl) (by kernel_rfl) (fun _ _ _ h => h) (Or.inl ⟨by kernel_rfl, ?_⟩) hHeld ?_
      rotate_left
      · intro wz hSw; go_simp; try (with_reducible rfl)
      try simp only [Act.put, List.setIfInBounds_toArray, List.set_cons_zero, List.set_cons_succ, List.getElem_toArray, List.getElem_cons_succ, List.getElem_cons_zero]
      refine wpAnyH_done (by kernel_rfl) ?_ _
      go_wp2_with fail
      go_ret
      exact ⟨rfl, HDN.out _ hHeld⟩
    · rw [if_pos (by kernel_rfl)]
      obtain ⟨capqc, obqc, hcb, hcapa, hcapb, hRB⟩ := conv_back BK HBMBK.out u3
      have HCAqc := Lib.hid (And.intro hcapa hcapb)
      clear hcapa hcapb
      go_simp
      try dsimp only
      refine hK.out _ _ (HDR.out _ obqc hHeld) (fun hHeld => ?_)
      try simp only [Act.put, List.setIfInBounds_toArray, List.set_cons_zero, List.set_cons_succ, List.getElem_toArray, List.getElem_cons_succ, List.getElem_cons_zero]
      clear hcb
      refine gen_any2 (fun u => S u ∧ Rb u u.heap.size (some ⟨u3.heap.size, 0, none⟩) l) ⟨hHeld, by rw [← HBTBK.out]; exact hRB⟩ (fun yq1 hw => ?_)
      clear hHeld hRB
      have hHeld := hw.1
      have HRCqc := Lib.hid hw.2
      clear hw
      refine wpAnyH_ready (rs := [25]) (by kernel_rfl) (by simp) (AllReadyH.cons rfl (fun K hK => ?_) AllReadyH.nil)
      rw [if_pos (by kernel_rfl)]
      go_simp
      refine (proof_ok A n c l A2 n2 c2 ws _ HI.out.len HI.out.cap HI.out.max HN.out (HRA.out _ hHeld) HSI.out.len HSN.out (HRS.out _ hHeld) HSS.out HTX.out (HGL.out _ hHeld)).mono ?_
      rintro e yq2 ⟨rfl, hb⟩
      rw [← HPB.out]
      replace HRCqc := Lib.hid ((HRCqc.out.below hb (Nat.le_refl _)).more hb.size)
      have HSyq2 := Lib.hid (HSW.out _ _ hHeld hb)
      clear hb hHeld
      try dsimp only
      refine hK.out _ _ HSyq2.out (fun hHeld => ?_)
      try simp only [Act.put, List.setIfInBounds_toArray, List.set_cons_zero, List.set_cons_succ, List.getElem_toArray, List.getElem_cons_succ, List.getElem_cons_zero]
      refine wpAnyH_ready (rs := [29]) (by kernel_rfl) (by simp) (AllReadyH.cons rfl (fun K hK => ?_) AllReadyH.nil)
      rw [if_pos (by kernel_rfl)]
      go_simp
      refine (proof_ok (some ⟨u3.heap.size, 0, none⟩) BK.size capqc l A2 n2 c2 ws _ HBSBK.out HCAqc.out.1 HCAqc.out.2 HBMBK.out HRCqc.out HSI.out.len HSN.out (HRS.out _ hHeld) HSS.out HTX.out (HGL.out _ hHeld)).mono ?_
      rintro e yq3 ⟨rfl, hb⟩
      rw [← HPB.out]
      have HSyq3 := Lib.hid (HSW.out _ _ hHeld hb)
      clear hb hHeld
      try dsimp only
      refine hK.out _ _ HSyq3.out (fun hHeld => ?_)
      try simp only [Act.put, List.setIfInBounds_toArray, List.set_cons_zero, List.set_cons_succ, List.getElem_toArray, List.getElem_cons_succ, List.getElem_cons_zero]
      refine take_at (some 65) (i := 30) (v := ?_) rfl rfl (by kernel_rfl) (by kernel_rfl) (by kernel_rfl) (fun _ _ _ h => h) (Or.inl ⟨by kernel_rfl, ?_⟩) hHeld ?_
      rotate_left
      · intro wz hSw; go_simp; try (with_reducible rfl)
      try simp only [Act.put, List.setIfInBounds_toArray, List.set_cons_zero, List.set_cons_succ, List.getElem_toArray, List.getElem_cons_succ, List.getElem_cons_zero]
      refine take_at (some 66) (i := 31) (v := ?_) rfl rfl (by kernel_rfl) (by kernel_rfl) (by kernel_rfl) (fun _ _ _ h => h) (Or.inl ⟨by kernel_rfl, ?_⟩) hHeld ?_
      rotate_left
      · intro wz hSw; go_simp; try (with_reducible rfl)
      try simp only [Act.put, List.setIfInBounds_toArray, List.set_cons_zero, List.set_cons_succ, List.getElem_toArray, List.getElem_cons_succ, List.getElem_cons_zero]
      refine take_at (some 6) (i := 32) (v := ?_) rfl rfl (by kernel_rfl) (by kernel_rfl) (by kernel_rfl) (fun _ _ _ h => h) (Or.inl ⟨by kernel_rfl, ?_⟩) hHeld ?_
      rotate_left
      · intro wz hSw; go_simp; try (with_reducible rfl)
      try simp only [Act.put, List.setIfInBounds_toArray, List.set_cons_zero, List.set_cons_succ, List.getElem_toArray, List.getElem_cons_succ, List.getElem_cons_zero]
      refine wpAnyH_done (by kernel_rfl) ?_ _
      go_wp2_with fail
      go_ret
      exact ⟨rfl, HDN.out _ hHeld⟩
end Go.Proofs.YtoekdiefbpnekaaDoor
