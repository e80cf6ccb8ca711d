/- The walk of DigestStill. (Written by gen_dstill.py.) -/
import Derived.Test.YtjgapkbobmbhbaaDoorDHead
import Derived.Test.YtjgapkbobmbhbaaDoorOpen
import Derived.Stop.BytesEq
namespace Go.Proofs.YtjgapkbobmbhbaaDoor
set_option linter.unusedVariables false
set_option linter.unusedSimpArgs false
open Go.RowKit

theorem yieldsIf_load_row {P : Program} {ops : Array Oper} {S : World → Prop} {oi : Oper} {a : Act} (hw : Region.wanted oi (yielded ops a.tmps) = true) (ty : TypeId) (x : Operand) (ho : oi.op = .load ty x)
    (g : Nat) (hx : a.eval x = .pointer (some ⟨g, 0, none⟩)) (t : TypeId) (cs : Array Value) (hS : ∀ w, S w → Bk w g t cs) {d : TypeDesc}
    (hu : P.underlying ty = some d) (hd : (match d with | .struct _ | .array _ _ => true | _ => false) = true) (hi : (P.info? ty).map (·.size) = some cs.size) : YieldsIf P ops S oi (.agg cs) a :=
  .inl ⟨hw, fun w hw' => by
    unfold execOp
    simp only [ho, hx, Instr.loadAt, Instr.sureAddr, Sem.run_bind, Sem.run_pure, Result.andThen_ok, run_loadVar_row w g t ty cs (0, 0) d (hS w hw') hu hd hi]⟩
theorem gen_any2 {P : Program} {md : Region.Mode} {ops : Array Oper} {Q : Exit → Act → World → Prop} {S' : World → Prop} {fuel : Nat} {listed : Array Bool} {a : Act} {w : World} (S : World → Prop) (hS : S w) (h : ∀ u, S u → wpAnyH P md ops Q S' fuel listed a u) : wpAnyH P md ops Q S' fuel listed a w := h w hS
theorem conv_back (B : ByteArray) (hB : B.size ≤ 1099511627776) (w : World) : ∃ (cap : Nat) (ob : Obj), (convert 9 22 (.string B)).run Tryd.prog w = .ok (.slice (some ⟨w.heap.size, 0, none⟩) B.size cap) (w.drew.alloc ob) ∧ B.size ≤ cap ∧ cap ≤ 9223372036854775807 ∧ Rb (w.drew.alloc ob) (w.drew.alloc ob).heap.size (some ⟨w.heap.size, 0, none⟩) B.data.toList := by
  refine ⟨_, _, run_bytes_of_string w 9 22 5 B Tryd.underlying9 Tryd.underlying22 Tryd.underlying5, grownCap_ge _ _ _ _, ?_, ?_⟩
  · have h := grownCap_le_maxLen w B.size 0 5 (by unfold maxLen; omega)
    unfold maxLen at h
    omega
  · refine .inr ⟨w.heap.size, 0, rfl, by show _ < (w.heap.push _).size; rw [Array.size_push]; omega, fun i hi => ?_⟩
    have hi' : i < B.data.size := by simpa using hi
    refine (cell_of_row (w.drew.alloc _) w.heap.size (0 + i) _ _ _ (heap_alloc_new w.drew _)).trans ?_
    rw [Nat.zero_add, bytesRow_at B _ i hi']
    rfl
theorem eq_arr (l : List UInt8) (hl : l.length = 32) (x y : Operand) (w : World) : ((do eqGuard .eql 26 x y (.agg (bcells l)) (.agg (bcells l)); binOp .eql 26 (.agg (bcells l)) (.agg (bcells l))) : Sem Value).run Tryd.prog w = .ok (.bool true) w := by
  have h1 := run_equalIn_bytes (P := Tryd.prog) w 9998 26 5 32 Tryd.underlying26 Tryd.underlying5 (fun w => Tryd.sizeOf5 w) l l hl hl
  have h2 : (Op.equal 26 (.agg (bcells l)) (.agg (bcells l))).run Tryd.prog w = .ok true w := by
    refine Eq.trans h1 ?_
    simp
  have h3 : Tryd.prog.eqGuardType Tryd.prog.depth 26 = false := by kernel_rfl
  simp [eqGuard, binOp, h2, h3]

set_option maxRecDepth 100000 in
set_option maxHeartbeats 4000000 in
theorem walk_DigestStill (A : Option Addr) (l : List UInt8) (n c : Nat) (A' : Option Addr) (l' : List UInt8) (n' c' : Nat) (W : World) (w0 : InB W A l n c) (w1 : InB W A' l' n' c') (hG : Gl W) :
    Calls Tryd.prog 6 #[.slice A n c, .slice A' n' c'] W fun e w' => e = .returned (.bool true) ∧ Below W.heap.size W w' := by
  have HI := Lib.hid w0
  have HI2 := Lib.hid w1
  have HG := Lib.hid hG
  clear w0 w1 hG
  by_cases g1 : 9000 < n
  · go_enter Tryd.func6, Tryd.ntmps6
    go_wp2_with fail
    refine (dhead_ok _ HG.out).mono ?_
    rintro e w1 ⟨rfl, hb1⟩
    go_wp2_with fail
    go_ret
    exact ⟨rfl, hb1⟩
  by_cases g2 : 9000 < n'
  · go_enter Tryd.func6, Tryd.ntmps6
    go_wp2_with fail
    refine (dhead_ok _ HG.out).mono ?_
    rintro e w1 ⟨rfl, hb1⟩
    go_wp2_with fail
    go_ret
    exact ⟨rfl, hb1⟩
  have HN9 := Lib.hid (show n ≤ 1099511627776 by omega)
  have HN9' := Lib.hid (show n' ≤ 1099511627776 by omega)
  have HGW := Lib.hid (show ∀ u, Below W.heap.size W u → Gl u from fun u hu => HG.out.below hu HG.out.size)
  have HRW := Lib.hid (show ∀ u, Below W.heap.size W u → Rb u u.heap.size A l from fun u hu => (HI.out.rb.below hu (Nat.le_refl _)).more hu.size)
  have HE := Lib.hid (show (Tryd.prog.info? 26).map (·.size) = some (bcells (sum l)).size by rw [bcells_size, sum_len]; kernel_rfl)
  have HE2 := Lib.hid (show (bcells (List.replicate 32 0)).size = (bcells (sum l)).size by rw [bcells_size, bcells_size, sum_len, List.length_replicate])
  go_enter Tryd.func6, Tryd.ntmps6
  go_wp2_with fail
  refine (dhead_ok _ HG.out).mono ?_
  rintro e w1 ⟨rfl, hb1⟩
  have HB1 := Lib.hid hb1
  clear hb1
  have hs1 := str_of (P := Tryd.prog) (HRW.out _ HB1.out) 22 5 9 Tryd.underlying22 Tryd.underlying5 Tryd.underlying9 n c HI.out.len
  have HSTR := Lib.hid (show ∀ u, Below W.heap.size W u → (convert 22 9 (.slice A n c)).run Tryd.prog u = .ok (.string ⟨l.toArray⟩) u from fun u hu => str_of (P := Tryd.prog) (HRW.out u hu) 22 5 9 Tryd.underlying22 Tryd.underlying5 Tryd.underlying9 n c HI.out.len)
  obtain ⟨B, hB⟩ : ∃ B : ByteArray, B = ⟨l.toArray⟩ := ⟨_, rfl⟩
  rw [← hB] at hs1 HSTR
  have HBL := Lib.hid hB
  clear hB
  go_wp2_with fail
  refine (sum_ok A n c l _ HI.out.len HI.out.cap HI.out.max HN9.out (HGW.out _ HB1.out) (HRW.out _ HB1.out)).mono ?_
  rintro e w2 ⟨rfl, hb2⟩
  have HB2 := Lib.hid (HB1.out.trans (hb2.mono HB1.out.size))
  clear hb2 hs1
  go_upto_region 6 with (refine wpList_store_row rfl 26 (.tmp 7) (.tmp 21) rfl w2.heap.size _ rfl rfl 26 _ (zeros_new w2) HE.out HE2.out (bcells_one _) ?_)
  refine gen_world (fun u => Bk u w2.heap.size 26 (bcells (sum l)) ∧ Below W.heap.size W u) ⟨(zeros_new w2).setRow _, Below.setRow (HB2.out.alloc HB2.out.size _) _ HB2.out.size _⟩ (fun w3 hw3 => ?_)
  obtain ⟨g1, hg1⟩ : ∃ g1, g1 = w2.heap.size := ⟨_, rfl⟩
  rw [← hg1] at hw3 ⊢
  have HK3 := Lib.hid hw3.1
  have HB3 := Lib.hid hw3.2
  clear hw3 hg1
  go_wp2_with fail
  refine (sum_ok A' n' c' l' _ HI2.out.len HI2.out.cap HI2.out.max HN9'.out (HGW.out _ HB3.out) ((HI2.out.rb.below HB3.out (Nat.le_refl _)).more HB3.out.size)).mono ?_
  rintro e w4 ⟨rfl, hb4⟩
  have HK4 := Lib.hid (HK3.out.below hb4 HK3.out.lt)
  have HB4 := Lib.hid (HB3.out.trans (hb4.mono HB3.out.size))
  clear hb4
  obtain ⟨S, hS⟩ : ∃ S : World → Prop, S = fun u => Below w4.heap.size w4 u := ⟨_, rfl⟩
  have HS0 := Lib.hid (show S w4.drew by rw [hS]; exact (Below.refl _ _).drew)
  have HSW := Lib.hid (show ∀ u u', S u → Below u.heap.size u u' → S u' by rw [hS]; exact fun u u' h hb => h.trans (hb.mono h.size))
  have HDN := Lib.hid (show ∀ u, S u → Below W.heap.size W u by rw [hS]; exact fun u hu => HB4.out.trans (hu.mono HB4.out.size))
  have HKX := Lib.hid (show ∀ u, S u → Bk u g1 26 (bcells (sum l)) by rw [hS]; exact fun u hu => HK4.out.below hu HK4.out.lt)
  have HAL := Lib.hid (show ∀ u ob, S u → S (u.alloc ob) by rw [hS]; exact fun u ob hu => hu.alloc hu.size _)
  have HDR := Lib.hid (show ∀ u, S u → S u.drew by rw [hS]; exact fun u hu => hu.drew)
  clear hS
  have HBT := Lib.hid (show B.data.toList = l by rw [HBL.out])
  have HBS := Lib.hid (show l.length = B.size by rw [← HBT.out]; rfl)
  have HBM := Lib.hid (show B.size ≤ 1099511627776 by rw [← HBS.out, HI.out.len]; exact HN9.out)
  have HBN := HBM
  have HCV := Lib.hid (show ∀ u, S u → (convert 22 9 (.slice A n c)).run Tryd.prog u = .ok (.string B) u from fun u hu => HSTR.out u (HDN.out u hu))
  have HGL := Lib.hid (show ∀ u, S u → Gl u from fun u hu => HGW.out u (HDN.out u hu))
  have HRB := Lib.hid (show ∀ u, S u → Rb u u.heap.size A l from fun u hu => HRW.out u (HDN.out u hu))
  have HEQ := Lib.hid (show ∀ (ops : Array Oper) (oi : Oper) (a : Act) {x y : Operand} {d : TypeId}, Region.wanted oi (yielded ops a.tmps) = true → oi.op = .binOp .eql 26 x y d → a.eval x = .agg (bcells (sum l)) → a.eval y = .agg (bcells (sum l)) → YieldsIf Tryd.prog ops S oi (.bool true) a from
    fun ops oi a x y d hw ho hx hy => .inl ⟨hw, fun w _ => by
      have h := eq_arr (sum l) (sum_len l) x y w
      unfold execOp
      simp only [ho, hx, hy]
      rw [Sem.run_bind, h]
      rfl⟩)
  go_wp2_with fail
  try simp only [List.cons_append, List.nil_append]
  refine wp_region_held_drew (S := S) (by kernel_rfl) (HS0.out) (fun hHeld => ?_)
  refine take_at (some 24) (i := 0) (v := ?_) rfl rfl (by kernel_rfl) (by kernel_rfl) (by kernel_rfl) (fun _ _ _ h => h) (Or.inl ⟨by kernel_rfl, ?_⟩) hHeld ?_
  rotate_left
  · intro wz hSw; go_simp; try (with_reducible rfl)
  try simp only [Act.put, List.setIfInBounds_toArray, List.set_cons_zero, List.set_cons_succ, List.getElem_toArray, List.getElem_cons_succ, List.getElem_cons_zero]
  refine take_at (some 25) (i := 1) (v := ?_) rfl rfl (by kernel_rfl) (by kernel_rfl) (by kernel_rfl) (fun _ _ _ h => h) (Or.inl ⟨by kernel_rfl, ?_⟩) hHeld ?_
  rotate_left
  · intro wz hSw; go_simp; try (with_reducible rfl)
  try simp only [Act.put, List.setIfInBounds_toArray, List.set_cons_zero, List.set_cons_succ, List.getElem_toArray, List.getElem_cons_succ, List.getElem_cons_zero]
  refine take_at (some 26) (i := 2) (v := ?_) rfl rfl (by kernel_rfl) (by kernel_rfl) (by kernel_rfl) (fun _ _ _ h => h) (Or.inl ⟨by kernel_rfl, ?_⟩) hHeld ?_
  rotate_left
  · intro wz hSw; go_simp; try (with_reducible rfl)
  try simp only [Act.put, List.setIfInBounds_toArray, List.set_cons_zero, List.set_cons_succ, List.getElem_toArray, List.getElem_cons_succ, List.getElem_cons_zero]
  refine take_at (some 27) (i := 3) (v := ?_) rfl rfl (by kernel_rfl) (by kernel_rfl) (by kernel_rfl) (fun _ _ _ h => h) (Or.inl ⟨by kernel_rfl, ?_⟩) hHeld ?_
  rotate_left
  · intro wz hSw; have hcv := HCV.out wz hSw; go_simp; try (with_reducible rfl)
  try simp only [Act.put, List.setIfInBounds_toArray, List.set_cons_zero, List.set_cons_succ, List.getElem_toArray, List.getElem_cons_succ, List.getElem_cons_zero]
  refine take_at (some 28) (i := 4) (v := ?_) rfl rfl (by kernel_rfl) (by kernel_rfl) (by kernel_rfl) (fun _ _ _ h => h) (Or.inl ⟨by kernel_rfl, ?_⟩) hHeld ?_
  rotate_left
  · intro wz hSw; go_simp; try (with_reducible rfl)
  try simp only [Act.put, List.setIfInBounds_toArray, List.set_cons_zero, List.set_cons_succ, List.getElem_toArray, List.getElem_cons_succ, List.getElem_cons_zero]
  refine take_at (some 29) (i := 5) (v := ?_) rfl rfl (by kernel_rfl) (by kernel_rfl) (by kernel_rfl) (fun _ _ _ h => h) (Or.inl ⟨by kernel_rfl, ?_⟩) hHeld ?_
  rotate_left
  · intro wz hSw; go_simp; try (with_reducible rfl)
  try simp only [Act.put, List.setIfInBounds_toArray, List.set_cons_zero, List.set_cons_succ, List.getElem_toArray, List.getElem_cons_succ, List.getElem_cons_zero]
  refine take_at (some 30) (i := 6) (v := ?_) rfl rfl (by kernel_rfl) (by kernel_rfl) (by kernel_rfl) (fun _ _ _ h => h) (Or.inl ⟨by kernel_rfl, ?_⟩) hHeld ?_
  rotate_left
  · intro wz hSw; go_simp; try (with_reducible rfl)
  try simp only [Act.put, List.setIfInBounds_toArray, List.set_cons_zero, List.set_cons_succ, List.getElem_toArray, List.getElem_cons_succ, List.getElem_cons_zero]
  refine take_at (some 31) (i := 7) (v := ?_) rfl rfl (by kernel_rfl) (by kernel_rfl) (by kernel_rfl) (fun _ _ _ h => h) (Or.inl ⟨by kernel_rfl, ?_⟩) hHeld ?_
  rotate_left
  · intro wz hSw; go_simp; try (with_reducible rfl)
  try simp only [Act.put, List.setIfInBounds_toArray, List.set_cons_zero, List.set_cons_succ, List.getElem_toArray, List.getElem_cons_succ, List.getElem_cons_zero]
  refine take_at (some 32) (i := 8) (v := ?_) rfl rfl (by kernel_rfl) (by kernel_rfl) (by kernel_rfl) (fun _ _ _ h => h) (Or.inl ⟨by kernel_rfl, ?_⟩) hHeld ?_
  rotate_left
  · intro wz hSw; go_simp; try (with_reducible rfl)
  try simp only [Act.put, List.setIfInBounds_toArray, List.set_cons_zero, List.set_cons_succ, List.getElem_toArray, List.getElem_cons_succ, List.getElem_cons_zero]
  refine take_at (some 34) (i := 10) rfl rfl (by kernel_rfl) (by kernel_rfl) (by kernel_rfl) (fun _ _ _ h => h) (yieldsIf_load_row (by kernel_rfl) 26 (.tmp 7) rfl g1 rfl 26 _ (fun u hu => HKX.out u hu) Tryd.underlying26 rfl HE.out) hHeld ?_
  try simp only [Act.put, List.setIfInBounds_toArray, List.set_cons_zero, List.set_cons_succ, List.getElem_toArray, List.getElem_cons_succ, List.getElem_cons_zero]
  refine wpAnyH_ready (rs := [9]) (by kernel_rfl) (by simp) (AllReadyH.cons rfl (fun K hK => ?_) AllReadyH.nil)
  rw [if_pos (by kernel_rfl)]
  go_simp
  refine (sum_ok A n c l _ HI.out.len HI.out.cap HI.out.max HN9.out (HGL.out _ hHeld) (HRB.out _ hHeld)).mono ?_
  rintro e w5 ⟨rfl, hb5⟩
  try dsimp only
  refine hK.out _ _ (HSW.out _ _ hHeld hb5) (fun hHeld => ?_)
  try simp only [Act.put, List.setIfInBounds_toArray, List.set_cons_zero, List.set_cons_succ, List.getElem_toArray, List.getElem_cons_succ, List.getElem_cons_zero]
  refine take_at (some 35) (i := 11) rfl rfl (by kernel_rfl) (by kernel_rfl) (by kernel_rfl) (fun _ _ _ h => h) (HEQ.out _ _ _ (by kernel_rfl) rfl rfl rfl) hHeld ?_
  try simp only [Act.put, List.setIfInBounds_toArray, List.set_cons_zero, List.set_cons_succ, List.getElem_toArray, List.getElem_cons_succ, List.getElem_cons_zero]
  refine take_at (some 36) (i := 12) (v := ?_) rfl rfl (by kernel_rfl) (by kernel_rfl) (by kernel_rfl) (fun _ _ _ h => h) (Or.inl ⟨by kernel_rfl, ?_⟩) hHeld ?_
  rotate_left
  · intro wz hSw; go_simp; try (with_reducible rfl)
  try simp only [Act.put, List.setIfInBounds_toArray, List.set_cons_zero, List.set_cons_succ, List.getElem_toArray, List.getElem_cons_succ, List.getElem_cons_zero]
  refine take_at (some 37) (i := 13) (v := ?_) rfl rfl (by kernel_rfl) (by kernel_rfl) (by kernel_rfl) (fun _ _ _ h => h) (Or.inl ⟨by kernel_rfl, ?_⟩) hHeld ?_
  rotate_left
  · intro wz hSw; go_simp; try (with_reducible rfl)
  try simp only [Act.put, List.setIfInBounds_toArray, List.set_cons_zero, List.set_cons_succ, List.getElem_toArray, List.getElem_cons_succ, List.getElem_cons_zero]
  refine take_at (some 38) (i := 14) (v := ?_) rfl rfl (by kernel_rfl) (by kernel_rfl) (by kernel_rfl) (fun _ _ _ h => h) (Or.inl ⟨by kernel_rfl, ?_⟩) hHeld ?_
  rotate_left
  · intro wz hSw; go_simp; try (with_reducible rfl)
  try simp only [Act.put, List.setIfInBounds_toArray, List.set_cons_zero, List.set_cons_succ, List.getElem_toArray, List.getElem_cons_succ, List.getElem_cons_zero]
  refine take_at (some 41) (i := 17) rfl rfl (by kernel_rfl) (by kernel_rfl) (by kernel_rfl) (fun _ _ _ h => h) (yieldsIf_load_row (by kernel_rfl) 26 (.tmp 7) rfl g1 rfl 26 _ (fun u hu => HKX.out u hu) Tryd.underlying26 rfl HE.out) hHeld ?_
  try simp only [Act.put, List.setIfInBounds_toArray, List.set_cons_zero, List.set_cons_succ, List.getElem_toArray, List.getElem_cons_succ, List.getElem_cons_zero]
  refine wpAnyH_ready (rs := [15]) (by kernel_rfl) (by simp) (AllReadyH.cons rfl (fun K hK => ?_) AllReadyH.nil)
  rw [if_pos (by kernel_rfl)]
  obtain ⟨cap, ob, hcb, hcap1, hcap2, hRB⟩ := conv_back B HBM.out w5
  go_simp
  try dsimp only
  refine hK.out _ _ (HDR.out _ (HAL.out _ ob hHeld)) (fun hHeld => ?_)
  try simp only [Act.put, List.setIfInBounds_toArray, List.set_cons_zero, List.set_cons_succ, List.getElem_toArray, List.getElem_cons_succ, List.getElem_cons_zero]
  clear hcb
  refine gen_any2 (fun u => S u ∧ Rb u u.heap.size (some ⟨w5.heap.size, 0, none⟩) l) ⟨hHeld, by rw [← HBT.out]; exact hRB⟩ (fun w6 hw6 => ?_)
  clear hHeld hRB
  have hHeld := hw6.1
  have HR6 := Lib.hid hw6.2
  clear hw6
  refine wpAnyH_ready (rs := [16]) (by kernel_rfl) (by simp) (AllReadyH.cons rfl (fun K hK => ?_) AllReadyH.nil)
  rw [if_pos (by kernel_rfl)]
  go_simp
  refine (sum_ok (some ⟨w5.heap.size, 0, none⟩) B.size cap l _ HBS.out hcap1 hcap2 HBN.out (HGL.out _ hHeld) HR6.out).mono ?_
  rintro e w7 ⟨rfl, hb7⟩
  try dsimp only
  refine hK.out _ _ (HSW.out _ _ hHeld hb7) (fun hHeld => ?_)
  try simp only [Act.put, List.setIfInBounds_toArray, List.set_cons_zero, List.set_cons_succ, List.getElem_toArray, List.getElem_cons_succ, List.getElem_cons_zero]
  refine take_at (some 42) (i := 18) rfl rfl (by kernel_rfl) (by kernel_rfl) (by kernel_rfl) (fun _ _ _ h => h) (HEQ.out _ _ _ (by kernel_rfl) rfl rfl rfl) hHeld ?_
  try simp only [Act.put, List.setIfInBounds_toArray, List.set_cons_zero, List.set_cons_succ, List.getElem_toArray, List.getElem_cons_succ, List.getElem_cons_zero]
  refine take_at (some 43) (i := 19) (v := ?_) rfl rfl (by kernel_rfl) (by kernel_rfl) (by kernel_rfl) (fun _ _ _ h => h) (Or.inl ⟨by kernel_rfl, ?_⟩) hHeld ?_
  rotate_left
  · intro wz hSw; go_simp; try (with_reducible rfl)
  try simp only [Act.put, List.setIfInBounds_toArray, List.set_cons_zero, List.set_cons_succ, List.getElem_toArray, List.getElem_cons_succ, List.getElem_cons_zero]
  refine take_at (some 4) (i := 20) (v := ?_) rfl rfl (by kernel_rfl) (by kernel_rfl) (by kernel_rfl) (fun _ _ _ h => h) (Or.inl ⟨by kernel_rfl, ?_⟩) hHeld ?_
  rotate_left
  · intro wz hSw; go_simp; try (with_reducible rfl)
  try simp only [Act.put, List.setIfInBounds_toArray, List.set_cons_zero, List.set_cons_succ, List.getElem_toArray, List.getElem_cons_succ, List.getElem_cons_zero]
  refine wpAnyH_done (by kernel_rfl) ?_ _
  go_wp2_with fail
  go_ret
  exact ⟨rfl, HDN.out _ hHeld⟩
end Go.Proofs.YtjgapkbobmbhbaaDoor
