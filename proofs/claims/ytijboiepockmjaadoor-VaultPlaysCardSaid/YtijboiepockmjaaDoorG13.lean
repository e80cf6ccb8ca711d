/- Vt3, Same, Vt4, RBits: texts of this seat, one behind the other. -/
import Derived.Test.YtijboiepockmjaaDoorG12
import Derived.Test.YtijboiepockmjaaDoorG11
import Derived.Test.YtijboiepockmjaaDoorG3
import Derived.Deep.QuietTactic
import Derived.BigQuiet
import Derived.Test.YtijboiepockmjaaDoorG8
/- The closures of a vault's methods: their contracts. (Written by gen_vt3.py.) -/
namespace Go.Proofs.YtijboiepockmjaaDoor
set_option linter.unusedVariables false
set_option maxRecDepth 100000
set_option linter.unusedSimpArgs false
open Go.RowKit

theorem gen_h {P : Program} {md : Region.Mode} {ops : Array Oper} {Q : Exit → Act → World → Prop} {S' : World → Prop} {fuel : Nat} {listed : Array Bool} {a : Act} {w : World} (S : World → Prop) (hS : S w) (h : ∀ u, S u → wpAnyH P md ops Q S' fuel listed a u) : wpAnyH P md ops Q S' fuel listed a w := h w hS
theorem gen_qH {Q : Exit → Act → World → Prop} {e : Exit} {a : Act} {w : World} (S : World → Prop) (hS : S w) (h : ∀ u, S u → Q e a u) : Q e a w := h w hS
/-- The store into the set, as one operation. -/
theorem op_vstore {o : Oper} {a : Act} {K : Act → World → Prop} {Q : Exit → Act → World → Prop} {w : World} (m x v : Operand) (hop : o.op = Op.mapUpdate 60 m x v)
    (mb : Nat) (g : Rev) (p q : ByteArray) (hm : a.eval m = .map (some mb)) (hx : a.eval x = nk p q) (hv : a.eval v = .agg #[]) (h : Mv w mb g) (hl : g.length ≤ 1099511627776) (hp : p.size ≤ 140737488355328) (hq : q.size ≤ 140737488355328)
    (hK : ∀ w', Mv w' mb ((p, q) :: g) → Ke [mb] w w' → K (a.put o.dst undef) w') : o.wp Tryd.prog a w K Q := by
  obtain ⟨w', hrun, r1, r2⟩ := h.store hl hp hq
  unfold Oper.wp
  simp [execOp, hop, hm, hx, hv, hrun, Result.andThen]
  exact hK w' r1 r2

/-- A cell stays when a map turns. -/
theorem ke_cell {w w' : World} {mb : Nat} {g : Rev} {a : Addr} {v : Value} (k : Ke [mb] w w') (hm : Mv w mb g) (h : w.cell? a = some v) : w'.cell? a = some v := by
  obtain ⟨es, ck, he⟩ := hm.block
  have hne : a.block ≠ mb := by
    intro e
    unfold World.cell? at h
    rw [e, he] at h
    simp at h
  exact (World.cell?_of_block (w := w) (a := a) (k.block a.block (World.block_lt_of_cell? w _ h) (by simpa using hne))).trans h
theorem textB_short (s : ByteArray) : (textB s).length ≤ 256 := by
  unfold textB
  split
  · rename_i h
    rw [List.length_cons]
    have : s.data.toList.length = s.size := rfl
    omega
  · simp
theorem texts3 (a b c : ByteArray) : (textsB [a, b, c]).length ≤ 549755813888 := by
  have h1 := textB_short a
  have h2 := textB_short b
  have h3 := textB_short c
  unfold textsB
  simp only [List.map_cons, List.map_nil, List.flatten_cons, List.flatten_nil, List.length_append, List.length_nil]
  omega

set_option maxRecDepth 100000 in
set_option maxHeartbeats 4000000 in
theorem good1_ok (u : World) (v mb : Nat) (c : List Tn) (g : Rev) (hv : Va u v mb c g) (p q : Nat) (a b kn ks : ByteArray) (kt now : Int) (cp : u.cell? ⟨p, 0, none⟩ = some (.pointer (some ⟨v, 0, none⟩))) (cq : u.cell? ⟨q, 0, none⟩ = some (.int .i64 now)) (hpl : p < u.heap.size) (hql : q < u.heap.size)
    (ha : a.size ≤ 140737488355328) (hb : b.size ≤ 140737488355328) :
    Calls Tryd.prog 33 #[nk a b, .agg #[.string kn, .string ks, .int .i64 kt], .pointer (some ⟨p, 0, none⟩), .pointer (some ⟨q, 0, none⟩)] u fun e u' => e = .returned (.bool (!inR g a b && decide (now < kt))) ∧ Below u.heap.size u u' := by
  obtain ⟨x, hz⟩ := hv
  have HM := Lib.hid (show ∀ u', Below u.heap.size u u' → (Instr.lookup 60 (.map (some mb)) (nk a b) true).run Tryd.prog u' = .ok (.tuple #[.agg #[], .bool (inR g a b)]) u' from fun u' hu => (hz.mp.ke (Ke.of hu) (by simp)).look ha hb)
  have HV := Lib.hid (show ∀ u', Below u.heap.size u u' → u'.cell? ⟨v, 5, none⟩ = some (.map (some mb)) from fun u' hu => (hz.blk.below hu hz.blk.lt).cell 5)
  have HP := Lib.hid (show ∀ u', Below u.heap.size u u' → u'.cell? ⟨p, 0, none⟩ = some (.pointer (some ⟨v, 0, none⟩)) ∧ u'.cell? ⟨q, 0, none⟩ = some (.int .i64 now) from fun u' hu => ⟨(hu.cell (p := ⟨p, 0, none⟩) hpl).trans cp, (hu.cell (p := ⟨q, 0, none⟩) hql).trans cq⟩)
  obtain ⟨r, hr⟩ : ∃ r, inR g a b = r := ⟨_, rfl⟩
  rw [hr] at HM ⊢
  have H1 := Lib.hid (show Bk ((u.alloc (.cells #[.string a, .string b] 67)).alloc (.cells #[.string kn, .string ks, .int .i64 kt] 48)) u.heap.size 67 #[.string a, .string b] from (Bk.new u _ _).alloc _)
  have H2 := Lib.hid (show Bk ((u.alloc (.cells #[.string a, .string b] 67)).alloc (.cells #[.string kn, .string ks, .int .i64 kt] 48)) (u.heap.size + 1) 48 #[.string kn, .string ks, .int .i64 kt] by have := Bk.new (u.alloc (.cells #[.string a, .string b] 67)) 48 #[.string kn, .string ks, .int .i64 kt]; rwa [World.size_alloc] at this)
  have HL := Lib.hid (show Below u.heap.size u ((u.alloc (.cells #[.string a, .string b] 67)).alloc (.cells #[.string kn, .string ks, .int .i64 kt] 48)) from ((Below.refl u.heap.size u).alloc (Nat.le_refl _) _).alloc (by rw [World.size_alloc]; omega) _)
  clear hz cp cq hpl hql ha hb hr
  go_enter Tryd.func33, Tryd.ntmps33
  go_upto_region 1 with fail
  try simp only [List.cons_append, List.nil_append]
  obtain ⟨v0, hv0⟩ : ∃ v, (u.alloc (.cells #[.string a, .string b] 67)).alloc (.cells #[.string kn, .string ks, .int .i64 kt] 48) = v := ⟨_, rfl⟩
  rw [hv0] at H1 H2 HL ⊢
  clear hv0
  have HSZ := Lib.hid HL.out.size
  try simp only [List.cons_append, List.nil_append]
  refine wp_region_held_drew (S := fun wz => Below v0.heap.size v0 wz) (by kernel_rfl) ((Below.refl _ _).drew) (fun hHeld => ?_)
  refine take_at (some 10) (i := 0) (v := ?_) rfl rfl (by kernel_rfl) (by kernel_rfl) (by kernel_rfl) (fun _ _ _ h => h) (Or.inl ⟨by kernel_rfl, ?_⟩) hHeld ?_
  rotate_left
  · intro wz hSw; have hbu := HL.out.trans (hSw.mono HSZ.out); have m0 := HM.out wz hbu; have m1 := HV.out wz hbu; have m2 := (HP.out wz hbu).1; have hn := H1.out.below hSw H1.out.lt; have n0 : wz.cell? ⟨u.heap.size, 0, none⟩ = some (.string a) := hn.cell 0; have n1 : wz.cell? ⟨u.heap.size, 1, none⟩ = some (.string b) := hn.cell 1; clear hn; go_simp; try (with_reducible rfl)
  try simp only [Act.put, List.setIfInBounds_toArray, List.set_cons_zero, List.set_cons_succ, List.getElem_toArray, List.getElem_cons_succ, List.getElem_cons_zero]
  refine take_at (some 11) (i := 1) (v := ?_) rfl rfl (by kernel_rfl) (by kernel_rfl) (by kernel_rfl) (fun _ _ _ h => h) (Or.inl ⟨by kernel_rfl, ?_⟩) hHeld ?_
  rotate_left
  · intro wz hSw; have hbu := HL.out.trans (hSw.mono HSZ.out); have m0 := HM.out wz hbu; have m1 := HV.out wz hbu; have m2 := (HP.out wz hbu).1; have hn := H1.out.below hSw H1.out.lt; have n0 : wz.cell? ⟨u.heap.size, 0, none⟩ = some (.string a) := hn.cell 0; have n1 : wz.cell? ⟨u.heap.size, 1, none⟩ = some (.string b) := hn.cell 1; clear hn; go_simp; try (with_reducible rfl)
  try simp only [Act.put, List.setIfInBounds_toArray, List.set_cons_zero, List.set_cons_succ, List.getElem_toArray, List.getElem_cons_succ, List.getElem_cons_zero]
  refine take_at (some 12) (i := 2) (v := ?_) rfl rfl (by kernel_rfl) (by kernel_rfl) (by kernel_rfl) (fun _ _ _ h => h) (Or.inl ⟨by kernel_rfl, ?_⟩) hHeld ?_
  rotate_left
  · intro wz hSw; have hbu := HL.out.trans (hSw.mono HSZ.out); have m0 := HM.out wz hbu; have m1 := HV.out wz hbu; have m2 := (HP.out wz hbu).1; have hn := H1.out.below hSw H1.out.lt; have n0 : wz.cell? ⟨u.heap.size, 0, none⟩ = some (.string a) := hn.cell 0; have n1 : wz.cell? ⟨u.heap.size, 1, none⟩ = some (.string b) := hn.cell 1; clear hn; go_simp; try (with_reducible rfl)
  try simp only [Act.put, List.setIfInBounds_toArray, List.set_cons_zero, List.set_cons_succ, List.getElem_toArray, List.getElem_cons_succ, List.getElem_cons_zero]
  refine take_at (some 13) (i := 3) (v := ?_) rfl rfl (by kernel_rfl) (by kernel_rfl) (by kernel_rfl) (fun _ _ _ h => h) (Or.inl ⟨by kernel_rfl, ?_⟩) hHeld ?_
  rotate_left
  · intro wz hSw; have hbu := HL.out.trans (hSw.mono HSZ.out); have m0 := HM.out wz hbu; have m1 := HV.out wz hbu; have m2 := (HP.out wz hbu).1; have hn := H1.out.below hSw H1.out.lt; have n0 : wz.cell? ⟨u.heap.size, 0, none⟩ = some (.string a) := hn.cell 0; have n1 : wz.cell? ⟨u.heap.size, 1, none⟩ = some (.string b) := hn.cell 1; clear hn; go_simp; try (with_reducible rfl)
  try simp only [Act.put, List.setIfInBounds_toArray, List.set_cons_zero, List.set_cons_succ, List.getElem_toArray, List.getElem_cons_succ, List.getElem_cons_zero]
  refine take_at (some 14) (i := 4) (v := ?_) rfl rfl (by kernel_rfl) (by kernel_rfl) (by kernel_rfl) (fun _ _ _ h => h) (Or.inl ⟨by kernel_rfl, ?_⟩) hHeld ?_
  rotate_left
  · intro wz hSw; have hbu := HL.out.trans (hSw.mono HSZ.out); have m0 := HM.out wz hbu; have m1 := HV.out wz hbu; have m2 := (HP.out wz hbu).1; have hn := H1.out.below hSw H1.out.lt; have n0 : wz.cell? ⟨u.heap.size, 0, none⟩ = some (.string a) := hn.cell 0; have n1 : wz.cell? ⟨u.heap.size, 1, none⟩ = some (.string b) := hn.cell 1; clear hn; go_simp; try (with_reducible rfl)
  try simp only [Act.put, List.setIfInBounds_toArray, List.set_cons_zero, List.set_cons_succ, List.getElem_toArray, List.getElem_cons_succ, List.getElem_cons_zero]
  refine take_at (some 15) (i := 5) (v := ?_) rfl rfl (by kernel_rfl) (by kernel_rfl) (by kernel_rfl) (fun _ _ _ h => h) (Or.inl ⟨by kernel_rfl, ?_⟩) hHeld ?_
  rotate_left
  · intro wz hSw; have hbu := HL.out.trans (hSw.mono HSZ.out); have m0 := HM.out wz hbu; have m1 := HV.out wz hbu; have m2 := (HP.out wz hbu).1; have hn := H1.out.below hSw H1.out.lt; have n0 : wz.cell? ⟨u.heap.size, 0, none⟩ = some (.string a) := hn.cell 0; have n1 : wz.cell? ⟨u.heap.size, 1, none⟩ = some (.string b) := hn.cell 1; clear hn; go_simp; try (with_reducible rfl)
  try simp only [Act.put, List.setIfInBounds_toArray, List.set_cons_zero, List.set_cons_succ, List.getElem_toArray, List.getElem_cons_succ, List.getElem_cons_zero]
  refine take_at (some 9) (i := 6) (v := ?_) rfl rfl (by kernel_rfl) (by kernel_rfl) (by kernel_rfl) (fun _ _ _ h => h) (Or.inl ⟨by kernel_rfl, ?_⟩) hHeld ?_
  rotate_left
  · intro wz hSw; have hbu := HL.out.trans (hSw.mono HSZ.out); have m0 := HM.out wz hbu; have m1 := HV.out wz hbu; have m2 := (HP.out wz hbu).1; have hn := H1.out.below hSw H1.out.lt; have n0 : wz.cell? ⟨u.heap.size, 0, none⟩ = some (.string a) := hn.cell 0; have n1 : wz.cell? ⟨u.heap.size, 1, none⟩ = some (.string b) := hn.cell 1; clear hn; go_simp; try (with_reducible rfl)
  try simp only [Act.put, List.setIfInBounds_toArray, List.set_cons_zero, List.set_cons_succ, List.getElem_toArray, List.getElem_cons_succ, List.getElem_cons_zero]
  refine take_at (some 16) (i := 7) (v := ?_) rfl rfl (by kernel_rfl) (by kernel_rfl) (by kernel_rfl) (fun _ _ _ h => h) (Or.inl ⟨by kernel_rfl, ?_⟩) hHeld ?_
  rotate_left
  · intro wz hSw; have hbu := HL.out.trans (hSw.mono HSZ.out); have m0 := HM.out wz hbu; have m1 := HV.out wz hbu; have m2 := (HP.out wz hbu).1; have hn := H1.out.below hSw H1.out.lt; have n0 : wz.cell? ⟨u.heap.size, 0, none⟩ = some (.string a) := hn.cell 0; have n1 : wz.cell? ⟨u.heap.size, 1, none⟩ = some (.string b) := hn.cell 1; clear hn; go_simp; try (with_reducible rfl)
  try simp only [Act.put, List.setIfInBounds_toArray, List.set_cons_zero, List.set_cons_succ, List.getElem_toArray, List.getElem_cons_succ, List.getElem_cons_zero]
  refine take_at (some 17) (i := 8) (v := ?_) rfl rfl (by kernel_rfl) (by kernel_rfl) (by kernel_rfl) (fun _ _ _ h => h) (Or.inl ⟨by kernel_rfl, ?_⟩) hHeld ?_
  rotate_left
  · intro wz hSw; have hbu := HL.out.trans (hSw.mono HSZ.out); have m0 := HM.out wz hbu; have m1 := HV.out wz hbu; have m2 := (HP.out wz hbu).1; have hn := H1.out.below hSw H1.out.lt; have n0 : wz.cell? ⟨u.heap.size, 0, none⟩ = some (.string a) := hn.cell 0; have n1 : wz.cell? ⟨u.heap.size, 1, none⟩ = some (.string b) := hn.cell 1; clear hn; go_simp; try (with_reducible rfl)
  try simp only [Act.put, List.setIfInBounds_toArray, List.set_cons_zero, List.set_cons_succ, List.getElem_toArray, List.getElem_cons_succ, List.getElem_cons_zero]
  refine wpAnyH_ready (rs := [9]) (by kernel_rfl) (by simp) (AllReadyH.cons rfl (fun K hK => ?_) AllReadyH.nil)
  rw [if_pos (by kernel_rfl)]
  go_simp
  refine hK.out _ _ ((Below.refl _ _).drew.alloc (Nat.le_refl _) _) (fun hHeld => ?_)
  try simp only [Act.put, List.setIfInBounds_toArray, List.set_cons_zero, List.set_cons_succ, List.getElem_toArray, List.getElem_cons_succ, List.getElem_cons_zero]
  refine wpAnyH_ready (rs := [10]) (by kernel_rfl) (by simp) (AllReadyH.cons rfl (fun K hK => ?_) AllReadyH.nil)
  rw [if_pos (by kernel_rfl)]
  go_simp
  refine hK.out _ _ hHeld (fun hHeld => ?_)
  try simp only [Act.put, List.setIfInBounds_toArray, List.set_cons_zero, List.set_cons_succ, List.getElem_toArray, List.getElem_cons_succ, List.getElem_cons_zero]
  refine wpAnyH_ready (rs := [11]) (by kernel_rfl) (by simp) (AllReadyH.cons rfl (fun K hK => ?_) AllReadyH.nil)
  rw [if_pos (by kernel_rfl)]
  go_simp
  refine hK.out _ _ hHeld (fun hHeld => ?_)
  try simp only [Act.put, List.setIfInBounds_toArray, List.set_cons_zero, List.set_cons_succ, List.getElem_toArray, List.getElem_cons_succ, List.getElem_cons_zero]
  refine wpAnyH_done (by kernel_rfl) ?_ _
  refine gen_qH (fun y => Below u.heap.size u y ∧ Bk y (u.heap.size + 1) 48 #[.string kn, .string ks, .int .i64 kt]) ⟨HL.out.trans (hHeld.mono HSZ.out), H2.out.below hHeld H2.out.lt⟩ (fun y hy => ?_)
  clear hHeld
  have HL2 := Lib.hid hy.1
  have HK2 := Lib.hid hy.2
  clear hy
  have y0 : y.cell? ⟨u.heap.size + 1, 2, none⟩ = some (.int .i64 kt) := HK2.out.cell 2
  obtain ⟨_, y1⟩ := HP.out y HL2.out
  cases r with
  | true =>
    go_wp2
    go_ret
    exact ⟨rfl, HL2.out⟩
  | false =>
    go_wp2
    go_ret
    exact ⟨by first | rfl | simp, HL2.out⟩

set_option maxRecDepth 100000 in
set_option maxHeartbeats 4000000 in
theorem revoke1_ok (u : World) (v mb : Nat) (c : List Tn) (g : Rev) (hv : Va u v mb c g) (hg : g.length ≤ 1099511627776) (p : Nat) (a b kn ks : ByteArray) (kt : Int) (cp : u.cell? ⟨p, 0, none⟩ = some (.pointer (some ⟨v, 0, none⟩))) (hpl : p < u.heap.size)
    (ha : a.size ≤ 140737488355328) (hb : b.size ≤ 140737488355328) :
    Calls Tryd.prog 30 #[nk a b, .agg #[.string kn, .string ks, .int .i64 kt], .pointer (some ⟨p, 0, none⟩)] u fun e u' => e = .returned (.bool (!inR g a b)) ∧ Mv u' mb ((a, b) :: g) ∧ Ke [mb] u u' := by
  obtain ⟨x, hz⟩ := hv
  have HM := Lib.hid (show ∀ u', Below u.heap.size u u' → (Instr.lookup 60 (.map (some mb)) (nk a b) true).run Tryd.prog u' = .ok (.tuple #[.agg #[], .bool (inR g a b)]) u' ∧ Mv u' mb g from fun u' hu => ⟨(hz.mp.ke (Ke.of hu) (by simp)).look ha hb, hz.mp.ke (Ke.of hu) (by simp)⟩)
  have HV := Lib.hid (show ∀ u', Below u.heap.size u u' → u'.cell? ⟨v, 5, none⟩ = some (.map (some mb)) from fun u' hu => (hz.blk.below hu hz.blk.lt).cell 5)
  have HP := Lib.hid (show ∀ u', Below u.heap.size u u' → u'.cell? ⟨p, 0, none⟩ = some (.pointer (some ⟨v, 0, none⟩)) from fun u' hu => (hu.cell (p := ⟨p, 0, none⟩) hpl).trans cp)
  have HAB := Lib.hid (And.intro hg (And.intro ha hb))
  obtain ⟨r, hr⟩ : ∃ r, inR g a b = r := ⟨_, rfl⟩
  rw [hr] at HM ⊢
  have H1 := Lib.hid (show Bk ((u.alloc (.cells #[.string a, .string b] 67)).alloc (.cells #[.string kn, .string ks, .int .i64 kt] 48)) u.heap.size 67 #[.string a, .string b] from (Bk.new u _ _).alloc _)
  have HL := Lib.hid (show Below u.heap.size u ((u.alloc (.cells #[.string a, .string b] 67)).alloc (.cells #[.string kn, .string ks, .int .i64 kt] 48)) from ((Below.refl u.heap.size u).alloc (Nat.le_refl _) _).alloc (by rw [World.size_alloc]; omega) _)
  clear hz cp hpl ha hb hr hg
  go_enter Tryd.func30, Tryd.ntmps30
  go_upto_region 1 with fail
  try simp only [List.cons_append, List.nil_append]
  obtain ⟨v0, hv0⟩ : ∃ v, (u.alloc (.cells #[.string a, .string b] 67)).alloc (.cells #[.string kn, .string ks, .int .i64 kt] 48) = v := ⟨_, rfl⟩
  rw [hv0] at H1 HL ⊢
  clear hv0
  have HSZ := Lib.hid HL.out.size
  try simp only [List.cons_append, List.nil_append]
  refine wp_region_held_drew (S := fun wz => Below v0.heap.size v0 wz) (by kernel_rfl) ((Below.refl _ _).drew) (fun hHeld => ?_)
  refine take_at (some 9) (i := 0) (v := ?_) rfl rfl (by kernel_rfl) (by kernel_rfl) (by kernel_rfl) (fun _ _ _ h => h) (Or.inl ⟨by kernel_rfl, ?_⟩) hHeld ?_
  rotate_left
  · intro wz hSw; have hbu := HL.out.trans (hSw.mono HSZ.out); have m0 := (HM.out wz hbu).1; have m1 := HV.out wz hbu; have m2 := HP.out wz hbu; have hn := H1.out.below hSw H1.out.lt; have n0 : wz.cell? ⟨u.heap.size, 0, none⟩ = some (.string a) := hn.cell 0; have n1 : wz.cell? ⟨u.heap.size, 1, none⟩ = some (.string b) := hn.cell 1; clear hn; go_simp; try (with_reducible rfl)
  try simp only [Act.put, List.setIfInBounds_toArray, List.set_cons_zero, List.set_cons_succ, List.getElem_toArray, List.getElem_cons_succ, List.getElem_cons_zero]
  refine take_at (some 10) (i := 1) (v := ?_) rfl rfl (by kernel_rfl) (by kernel_rfl) (by kernel_rfl) (fun _ _ _ h => h) (Or.inl ⟨by kernel_rfl, ?_⟩) hHeld ?_
  rotate_left
  · intro wz hSw; have hbu := HL.out.trans (hSw.mono HSZ.out); have m0 := (HM.out wz hbu).1; have m1 := HV.out wz hbu; have m2 := HP.out wz hbu; have hn := H1.out.below hSw H1.out.lt; have n0 : wz.cell? ⟨u.heap.size, 0, none⟩ = some (.string a) := hn.cell 0; have n1 : wz.cell? ⟨u.heap.size, 1, none⟩ = some (.string b) := hn.cell 1; clear hn; go_simp; try (with_reducible rfl)
  try simp only [Act.put, List.setIfInBounds_toArray, List.set_cons_zero, List.set_cons_succ, List.getElem_toArray, List.getElem_cons_succ, List.getElem_cons_zero]
  refine take_at (some 11) (i := 2) (v := ?_) rfl rfl (by kernel_rfl) (by kernel_rfl) (by kernel_rfl) (fun _ _ _ h => h) (Or.inl ⟨by kernel_rfl, ?_⟩) hHeld ?_
  rotate_left
  · intro wz hSw; have hbu := HL.out.trans (hSw.mono HSZ.out); have m0 := (HM.out wz hbu).1; have m1 := HV.out wz hbu; have m2 := HP.out wz hbu; have hn := H1.out.below hSw H1.out.lt; have n0 : wz.cell? ⟨u.heap.size, 0, none⟩ = some (.string a) := hn.cell 0; have n1 : wz.cell? ⟨u.heap.size, 1, none⟩ = some (.string b) := hn.cell 1; clear hn; go_simp; try (with_reducible rfl)
  try simp only [Act.put, List.setIfInBounds_toArray, List.set_cons_zero, List.set_cons_succ, List.getElem_toArray, List.getElem_cons_succ, List.getElem_cons_zero]
  refine take_at (some 12) (i := 3) (v := ?_) rfl rfl (by kernel_rfl) (by kernel_rfl) (by kernel_rfl) (fun _ _ _ h => h) (Or.inl ⟨by kernel_rfl, ?_⟩) hHeld ?_
  rotate_left
  · intro wz hSw; have hbu := HL.out.trans (hSw.mono HSZ.out); have m0 := (HM.out wz hbu).1; have m1 := HV.out wz hbu; have m2 := HP.out wz hbu; have hn := H1.out.below hSw H1.out.lt; have n0 : wz.cell? ⟨u.heap.size, 0, none⟩ = some (.string a) := hn.cell 0; have n1 : wz.cell? ⟨u.heap.size, 1, none⟩ = some (.string b) := hn.cell 1; clear hn; go_simp; try (with_reducible rfl)
  try simp only [Act.put, List.setIfInBounds_toArray, List.set_cons_zero, List.set_cons_succ, List.getElem_toArray, List.getElem_cons_succ, List.getElem_cons_zero]
  refine take_at (some 13) (i := 4) (v := ?_) rfl rfl (by kernel_rfl) (by kernel_rfl) (by kernel_rfl) (fun _ _ _ h => h) (Or.inl ⟨by kernel_rfl, ?_⟩) hHeld ?_
  rotate_left
  · intro wz hSw; have hbu := HL.out.trans (hSw.mono HSZ.out); have m0 := (HM.out wz hbu).1; have m1 := HV.out wz hbu; have m2 := HP.out wz hbu; have hn := H1.out.below hSw H1.out.lt; have n0 : wz.cell? ⟨u.heap.size, 0, none⟩ = some (.string a) := hn.cell 0; have n1 : wz.cell? ⟨u.heap.size, 1, none⟩ = some (.string b) := hn.cell 1; clear hn; go_simp; try (with_reducible rfl)
  try simp only [Act.put, List.setIfInBounds_toArray, List.set_cons_zero, List.set_cons_succ, List.getElem_toArray, List.getElem_cons_succ, List.getElem_cons_zero]
  refine take_at (some 14) (i := 5) (v := ?_) rfl rfl (by kernel_rfl) (by kernel_rfl) (by kernel_rfl) (fun _ _ _ h => h) (Or.inl ⟨by kernel_rfl, ?_⟩) hHeld ?_
  rotate_left
  · intro wz hSw; have hbu := HL.out.trans (hSw.mono HSZ.out); have m0 := (HM.out wz hbu).1; have m1 := HV.out wz hbu; have m2 := HP.out wz hbu; have hn := H1.out.below hSw H1.out.lt; have n0 : wz.cell? ⟨u.heap.size, 0, none⟩ = some (.string a) := hn.cell 0; have n1 : wz.cell? ⟨u.heap.size, 1, none⟩ = some (.string b) := hn.cell 1; clear hn; go_simp; try (with_reducible rfl)
  try simp only [Act.put, List.setIfInBounds_toArray, List.set_cons_zero, List.set_cons_succ, List.getElem_toArray, List.getElem_cons_succ, List.getElem_cons_zero]
  refine take_at (some 8) (i := 6) (v := ?_) rfl rfl (by kernel_rfl) (by kernel_rfl) (by kernel_rfl) (fun _ _ _ h => h) (Or.inl ⟨by kernel_rfl, ?_⟩) hHeld ?_
  rotate_left
  · intro wz hSw; have hbu := HL.out.trans (hSw.mono HSZ.out); have m0 := (HM.out wz hbu).1; have m1 := HV.out wz hbu; have m2 := HP.out wz hbu; have hn := H1.out.below hSw H1.out.lt; have n0 : wz.cell? ⟨u.heap.size, 0, none⟩ = some (.string a) := hn.cell 0; have n1 : wz.cell? ⟨u.heap.size, 1, none⟩ = some (.string b) := hn.cell 1; clear hn; go_simp; try (with_reducible rfl)
  try simp only [Act.put, List.setIfInBounds_toArray, List.set_cons_zero, List.set_cons_succ, List.getElem_toArray, List.getElem_cons_succ, List.getElem_cons_zero]
  refine take_at (some 15) (i := 7) (v := ?_) rfl rfl (by kernel_rfl) (by kernel_rfl) (by kernel_rfl) (fun _ _ _ h => h) (Or.inl ⟨by kernel_rfl, ?_⟩) hHeld ?_
  rotate_left
  · intro wz hSw; have hbu := HL.out.trans (hSw.mono HSZ.out); have m0 := (HM.out wz hbu).1; have m1 := HV.out wz hbu; have m2 := HP.out wz hbu; have hn := H1.out.below hSw H1.out.lt; have n0 : wz.cell? ⟨u.heap.size, 0, none⟩ = some (.string a) := hn.cell 0; have n1 : wz.cell? ⟨u.heap.size, 1, none⟩ = some (.string b) := hn.cell 1; clear hn; go_simp; try (with_reducible rfl)
  try simp only [Act.put, List.setIfInBounds_toArray, List.set_cons_zero, List.set_cons_succ, List.getElem_toArray, List.getElem_cons_succ, List.getElem_cons_zero]
  refine take_at (some 16) (i := 8) (v := ?_) rfl rfl (by kernel_rfl) (by kernel_rfl) (by kernel_rfl) (fun _ _ _ h => h) (Or.inl ⟨by kernel_rfl, ?_⟩) hHeld ?_
  rotate_left
  · intro wz hSw; have hbu := HL.out.trans (hSw.mono HSZ.out); have m0 := (HM.out wz hbu).1; have m1 := HV.out wz hbu; have m2 := HP.out wz hbu; have hn := H1.out.below hSw H1.out.lt; have n0 : wz.cell? ⟨u.heap.size, 0, none⟩ = some (.string a) := hn.cell 0; have n1 : wz.cell? ⟨u.heap.size, 1, none⟩ = some (.string b) := hn.cell 1; clear hn; go_simp; try (with_reducible rfl)
  try simp only [Act.put, List.setIfInBounds_toArray, List.set_cons_zero, List.set_cons_succ, List.getElem_toArray, List.getElem_cons_succ, List.getElem_cons_zero]
  refine wpAnyH_ready (rs := [9]) (by kernel_rfl) (by simp) (AllReadyH.cons rfl (fun K hK => ?_) AllReadyH.nil)
  rw [if_pos (by kernel_rfl)]
  go_simp
  refine hK.out _ _ ((Below.refl _ _).drew.alloc (Nat.le_refl _) _) (fun hHeld => ?_)
  try simp only [Act.put, List.setIfInBounds_toArray, List.set_cons_zero, List.set_cons_succ, List.getElem_toArray, List.getElem_cons_succ, List.getElem_cons_zero]
  refine wpAnyH_ready (rs := [10]) (by kernel_rfl) (by simp) (AllReadyH.cons rfl (fun K hK => ?_) AllReadyH.nil)
  rw [if_pos (by kernel_rfl)]
  go_simp
  refine hK.out _ _ hHeld (fun hHeld => ?_)
  try simp only [Act.put, List.setIfInBounds_toArray, List.set_cons_zero, List.set_cons_succ, List.getElem_toArray, List.getElem_cons_succ, List.getElem_cons_zero]
  refine wpAnyH_ready (rs := [11]) (by kernel_rfl) (by simp) (AllReadyH.cons rfl (fun K hK => ?_) AllReadyH.nil)
  rw [if_pos (by kernel_rfl)]
  go_simp
  refine hK.out _ _ hHeld (fun hHeld => ?_)
  try simp only [Act.put, List.setIfInBounds_toArray, List.set_cons_zero, List.set_cons_succ, List.getElem_toArray, List.getElem_cons_succ, List.getElem_cons_zero]
  refine wpAnyH_done (by kernel_rfl) ?_ _
  refine gen_qH (fun y => Below u.heap.size u y ∧ Bk y u.heap.size 67 #[.string a, .string b]) ⟨HL.out.trans (hHeld.mono HSZ.out), H1.out.below hHeld H1.out.lt⟩ (fun y hy => ?_)
  clear hHeld
  have HL2 := Lib.hid hy.1
  have HN2 := Lib.hid hy.2
  clear hy
  go_upto_region 2 with fail
  try simp only [List.cons_append, List.nil_append]
  have KP := Lib.hid (show ∀ wz, Ke [mb] y wz → wz.cell? ⟨p, 0, none⟩ = some (.pointer (some ⟨v, 0, none⟩)) from fun wz hw => ke_cell hw (HM.out y HL2.out).2 (HP.out y HL2.out))
  have KV := Lib.hid (show ∀ wz, Ke [mb] y wz → wz.cell? ⟨v, 5, none⟩ = some (.map (some mb)) from fun wz hw => ke_cell hw (HM.out y HL2.out).2 (HV.out y HL2.out))
  have KN := Lib.hid (show ∀ wz, Ke [mb] y wz → wz.cell? ⟨u.heap.size, 0, none⟩ = some (.string a) ∧ wz.cell? ⟨u.heap.size, 1, none⟩ = some (.string b) from fun wz hw => ⟨ke_cell hw (HM.out y HL2.out).2 (HN2.out.cell 0), ke_cell hw (HM.out y HL2.out).2 (HN2.out.cell 1)⟩)
  try simp only [List.cons_append, List.nil_append]
  refine wp_region_held_drew (S := fun wz => Ke [mb] y wz) (by kernel_rfl) ((Ke.refl _ _).drew) (fun hHeld => ?_)
  refine take_at (some 17) (i := 0) (v := ?_) rfl rfl (by kernel_rfl) (by kernel_rfl) (by kernel_rfl) (fun _ _ _ h => h) (Or.inl ⟨by kernel_rfl, ?_⟩) hHeld ?_
  rotate_left
  · intro wz hSw; have c1 := KP.out _ hSw; have c2 := KV.out _ hSw; have n0 := (KN.out _ hSw).1; have n1 := (KN.out _ hSw).2; go_simp; try (with_reducible rfl)
  try simp only [Act.put, List.setIfInBounds_toArray, List.set_cons_zero, List.set_cons_succ, List.getElem_toArray, List.getElem_cons_succ, List.getElem_cons_zero]
  refine take_at (some 18) (i := 1) (v := ?_) rfl rfl (by kernel_rfl) (by kernel_rfl) (by kernel_rfl) (fun _ _ _ h => h) (Or.inl ⟨by kernel_rfl, ?_⟩) hHeld ?_
  rotate_left
  · intro wz hSw; have c1 := KP.out _ hSw; have c2 := KV.out _ hSw; have n0 := (KN.out _ hSw).1; have n1 := (KN.out _ hSw).2; go_simp; try (with_reducible rfl)
  try simp only [Act.put, List.setIfInBounds_toArray, List.set_cons_zero, List.set_cons_succ, List.getElem_toArray, List.getElem_cons_succ, List.getElem_cons_zero]
  refine take_at (some 19) (i := 2) (v := ?_) rfl rfl (by kernel_rfl) (by kernel_rfl) (by kernel_rfl) (fun _ _ _ h => h) (Or.inl ⟨by kernel_rfl, ?_⟩) hHeld ?_
  rotate_left
  · intro wz hSw; have c1 := KP.out _ hSw; have c2 := KV.out _ hSw; have n0 := (KN.out _ hSw).1; have n1 := (KN.out _ hSw).2; go_simp; try (with_reducible rfl)
  try simp only [Act.put, List.setIfInBounds_toArray, List.set_cons_zero, List.set_cons_succ, List.getElem_toArray, List.getElem_cons_succ, List.getElem_cons_zero]
  refine take_at (some 20) (i := 3) (v := ?_) rfl rfl (by kernel_rfl) (by kernel_rfl) (by kernel_rfl) (fun _ _ _ h => h) (Or.inl ⟨by kernel_rfl, ?_⟩) hHeld ?_
  rotate_left
  · intro wz hSw; have c1 := KP.out _ hSw; have c2 := KV.out _ hSw; have n0 := (KN.out _ hSw).1; have n1 := (KN.out _ hSw).2; go_simp; try (with_reducible rfl)
  try simp only [Act.put, List.setIfInBounds_toArray, List.set_cons_zero, List.set_cons_succ, List.getElem_toArray, List.getElem_cons_succ, List.getElem_cons_zero]
  refine take_at (some 21) (i := 4) (v := ?_) rfl rfl (by kernel_rfl) (by kernel_rfl) (by kernel_rfl) (fun _ _ _ h => h) (Or.inl ⟨by kernel_rfl, ?_⟩) hHeld ?_
  rotate_left
  · intro wz hSw; have c1 := KP.out _ hSw; have c2 := KV.out _ hSw; have n0 := (KN.out _ hSw).1; have n1 := (KN.out _ hSw).2; go_simp; try (with_reducible rfl)
  try simp only [Act.put, List.setIfInBounds_toArray, List.set_cons_zero, List.set_cons_succ, List.getElem_toArray, List.getElem_cons_succ, List.getElem_cons_zero]
  refine take_at (some 22) (i := 5) (v := ?_) rfl rfl (by kernel_rfl) (by kernel_rfl) (by kernel_rfl) (fun _ _ _ h => h) (Or.inl ⟨by kernel_rfl, ?_⟩) hHeld ?_
  rotate_left
  · intro wz hSw; have c1 := KP.out _ hSw; have c2 := KV.out _ hSw; have n0 := (KN.out _ hSw).1; have n1 := (KN.out _ hSw).2; go_simp; try (with_reducible rfl)
  try simp only [Act.put, List.setIfInBounds_toArray, List.set_cons_zero, List.set_cons_succ, List.getElem_toArray, List.getElem_cons_succ, List.getElem_cons_zero]
  refine wpAnyH_ready (rs := [6]) (by kernel_rfl) (by simp) (AllReadyH.cons rfl (fun K hK => ?_) AllReadyH.nil)
  rw [if_pos (by kernel_rfl)]
  refine op_vstore (.tmp 20) (.tmp 21) (.tmp 22) rfl mb g a b rfl rfl rfl ((HM.out y HL2.out).2.ke (Ke.refl [] y).drew (by simp)) HAB.out.1 HAB.out.2.1 HAB.out.2.2 ?_
  intro y2 hm2 hk2
  refine hK.out _ _ ((Ke.refl _ _).drew.trans hk2) (fun hHeld => ?_)
  try simp only [Act.put, List.setIfInBounds_toArray, List.set_cons_zero, List.set_cons_succ, List.getElem_toArray, List.getElem_cons_succ, List.getElem_cons_zero]
  refine wpAnyH_done (by kernel_rfl) ?_ _
  refine gen_qH (fun z => Mv z mb ((a, b) :: g) ∧ Ke [mb] y z) ⟨hm2, hHeld⟩ (fun z hy => ?_)
  clear hHeld hm2 hk2
  go_wp2
  go_ret
  exact ⟨by cases r <;> rfl, hy.1, (Ke.of HL2.out).nil.trans hy.2⟩

set_option maxRecDepth 100000 in
set_option maxHeartbeats 4000000 in
theorem want1_ok (u : World) (hG : Gl u) (q : Nat) (a b kn ks nn : ByteArray) (kt : Int) (cq : u.cell? ⟨q, 0, none⟩ = some (.string nn)) (hql : q < u.heap.size) (hks : ks.size ≤ 32)
    (ha : a.size ≤ 140737488355328) (hb : b.size ≤ 140737488355328) (hn : nn.size ≤ 140737488355328) :
    Calls Tryd.prog 35 #[nk a b, .agg #[.string kn, .string ks, .int .i64 kt], .pointer (some ⟨q, 0, none⟩)] u fun e u' => e = .returned (.string ⟨(proofB ks.data.toList [a, b, nn]).toArray⟩) ∧ Below u.heap.size u u' := by
  have HP := Lib.hid (show ∀ u', Below u.heap.size u u' → u'.cell? ⟨q, 0, none⟩ = some (.string nn) from fun u' hu => (hu.cell (p := ⟨q, 0, none⟩) hql).trans cq)
  have HGB := Lib.hid (show ∀ u', Below u.heap.size u u' → Gl u' from fun u' hu => hG.below hu hG.size)
  have HTX := Lib.hid (texts3 a b nn)
  have HSM := Lib.hid (show ∀ x ∈ [a, b, nn], x.size ≤ 140737488355328 from fun x hx => by
    simp only [List.mem_cons, List.not_mem_nil, or_false] at hx
    rcases hx with rfl | rfl | rfl <;> assumption)
  have HKS := Lib.hid hks
  have H1 := Lib.hid (show Bk ((u.alloc (.cells #[.string a, .string b] 67)).alloc (.cells #[.string kn, .string ks, .int .i64 kt] 48)) u.heap.size 67 #[.string a, .string b] from (Bk.new u _ _).alloc _)
  have H2 := Lib.hid (show Bk ((u.alloc (.cells #[.string a, .string b] 67)).alloc (.cells #[.string kn, .string ks, .int .i64 kt] 48)) (u.heap.size + 1) 48 #[.string kn, .string ks, .int .i64 kt] by have := Bk.new (u.alloc (.cells #[.string a, .string b] 67)) 48 #[.string kn, .string ks, .int .i64 kt]; rwa [World.size_alloc] at this)
  have HL := Lib.hid (show Below u.heap.size u ((u.alloc (.cells #[.string a, .string b] 67)).alloc (.cells #[.string kn, .string ks, .int .i64 kt] 48)) from ((Below.refl u.heap.size u).alloc (Nat.le_refl _) _).alloc (by rw [World.size_alloc]; omega) _)
  clear hG cq hql hks ha hb hn
  go_enter Tryd.func35, Tryd.ntmps35
  go_upto_region 1 with fail
  try simp only [List.cons_append, List.nil_append]
  obtain ⟨v0, hv0⟩ : ∃ v, (u.alloc (.cells #[.string a, .string b] 67)).alloc (.cells #[.string kn, .string ks, .int .i64 kt] 48) = v := ⟨_, rfl⟩
  rw [hv0] at H1 H2 HL ⊢
  clear hv0
  obtain ⟨cap, ob, hcb, hcap1, hcap2, hRB⟩ := conv_back ks (by have := HKS.out; omega) v0
  have hbo : Below v0.heap.size v0 (v0.drew.alloc ob) := (Below.refl _ _).drew.alloc (Nat.le_refl _) _
  have hz0 : (v0.drew.alloc ob).heap.size = v0.heap.size + 1 := World.size_alloc ..
  obtain ⟨v1, hv1⟩ : ∃ v1, v0.drew.alloc ob = v1 := ⟨_, rfl⟩
  rw [hv1] at hcb hRB hbo hz0
  clear hv1
  have HSZ := Lib.hid HL.out.size
  have e1 : v0.cell? ⟨u.heap.size + 1, 1, none⟩ = some (.string ks) := H2.out.cell 1
  have n0 : v1.cell? ⟨u.heap.size, 0, none⟩ = some (.string a) := (H1.out.below hbo H1.out.lt).cell 0
  have n1 : v1.cell? ⟨u.heap.size, 1, none⟩ = some (.string b) := (H1.out.below hbo H1.out.lt).cell 1
  have n2 := HP.out _ (HL.out.trans (hbo.mono HSZ.out))
  have HPR := Lib.hid (show Calls Tryd.prog 36 #[.slice (some ⟨v0.heap.size, 0, none⟩) ks.size cap, .slice (some ⟨v0.heap.size + 1, 0, none⟩) 3 3] (v1.alloc (.cells #[.string a, .string b, .string nn] 9)) fun e w' => e = .returned (.string ⟨(proofB ks.data.toList [a, b, nn]).toArray⟩) ∧ Below u.heap.size u w' from by
    have hb2 := (Below.refl v1.heap.size v1).alloc (Nat.le_refl _) (.cells #[.string a, .string b, .string nn] 9)
    have hz := hz0
    have hbk : Bk (v1.alloc (.cells #[.string a, .string b, .string nn] 9)) (v0.heap.size + 1) 9 #[.string a, .string b, .string nn] := by
      have := Bk.new v1 9 #[.string a, .string b, .string nn]
      rwa [hz] at this
    have hl2 : Below u.heap.size u (v1.alloc (.cells #[.string a, .string b, .string nn] 9)) := (HL.out.trans (hbo.mono HSZ.out)).trans (hb2.mono (by have := HSZ.out; omega))
    refine (proof_ok (some ⟨v0.heap.size, 0, none⟩) ks.size cap ks.data.toList (some ⟨v0.heap.size + 1, 0, none⟩) 3 3 [a, b, nn] _ rfl hcap1 hcap2 (by have := HKS.out; omega) ?_ rfl (by omega) ?_ HSM.out HTX.out (HGB.out _ hl2)).mono fun e w' hh => ⟨hh.1, hl2.trans (hh.2.mono hl2.size)⟩
    · have := (hRB.below hb2 (Nat.le_refl _)).more (B' := (v1.alloc (.cells #[.string a, .string b, .string nn] 9)).heap.size) hb2.size
      exact this
    · refine .inr ⟨v0.heap.size + 1, 0, rfl, hbk.lt, fun i hi => ?_⟩
      rw [hbk.cell]
      match i, hi with
      | 0, _ => rfl
      | 1, _ => rfl
      | 2, _ => rfl)
  clear hRB hbo
  go_wp2_with (go_at_call 36; (with_reducible refine HPR.out.mono ?_); rintro e w' ⟨rfl, hb⟩)
  go_ret
  exact ⟨rfl, hb⟩
end Go.Proofs.YtijboiepockmjaaDoor

/- mac.Same: rows that are alike. -/
namespace Go.Proofs.YtijboiepockmjaaDoor
set_option linter.unusedVariables false
set_option maxRecDepth 100000
set_option linter.unusedSimpArgs false
open Go.RowKit

theorem Rb.at_ {w : World} {B : Nat} {A : Option Addr} {l : List UInt8} (h : Rb w B A l) (h0 : 0 < l.length) : ∃ b o, A = some ⟨b, o, none⟩ ∧ b < B ∧ ∀ i, i < l.length → w.cell? ⟨b, o + i, none⟩ = some (.int .u8 ((l.getD i 0).toNat : Int)) := by
  rcases h with h | ⟨b, o, e, hb, hc⟩
  · subst h; simp at h0
  · refine ⟨b, o, e, hb, fun i hi => ?_⟩
    rw [hc i hi, List.getD, List.getElem?_eq_getElem hi]; rfl
theorem ext_getD (a b : List UInt8) (n : Nat) (h1 : a.length = n) (h2 : b.length = n) : a = b ↔ ∀ j, j < n → a.getD j 0 = b.getD j 0 := by
  constructor
  · intro h j _; rw [h]
  · intro h
    apply List.ext_getElem (by omega)
    intro j hj1 hj2
    have := h j (by omega)
    rw [List.getD, List.getD, List.getElem?_eq_getElem hj1, List.getElem?_eq_getElem hj2] at this
    exact this
/-- Up to here no byte is other. -/
def Alike (l l' : List UInt8) (i : Nat) (x : UInt8) : Prop := x = 0 ↔ ∀ j, j < i → l.getD j 0 = l'.getD j 0
theorem Alike.zero (l l' : List UInt8) : Alike l l' 0 0 := ⟨fun _ j hj => by omega, fun _ => rfl⟩
theorem Alike.next {l l' : List UInt8} {i : Nat} {x : UInt8} (h : Alike l l' i x) : Alike l l' (i + 1) (x ||| (l.getD i 0 ^^^ l'.getD i 0)) := by
  unfold Alike at h ⊢
  rw [or_zero, xor_zero, h]
  constructor
  · rintro ⟨h1, h2⟩ j hj
    by_cases hji : j = i
    · rw [hji]; exact h2
    · exact h1 j (by omega)
  · intro h1
    exact ⟨fun j hj => h1 j (by omega), h1 i (by omega)⟩

set_option maxHeartbeats 1000000 in
theorem same_q (A : Option Addr) (n c : Nat) (l : List UInt8) (A' : Option Addr) (n' c' : Nat) (l' : List UInt8) (v : Bool) (w : World) (hl : l.length = n) (hl' : l'.length = n') (hn : n ≤ 1099511627776) (hn' : n' ≤ 1099511627776)
    (hR : Rb w w.heap.size A l) (hR' : Rb w w.heap.size A' l') (hv : decide (l = l') = v) :
    Calls Tryd.prog 37 #[.slice A n c, .slice A' n' c'] w fun e w' => e = .returned (.bool v) ∧ ∃ m, w' = w.drewN m := by
  by_cases hne : n = n'
  · subst hne
    have HL := Lib.hid hl
    have HL' := Lib.hid hl'
    have HR := Lib.hid hR
    have HR' := Lib.hid hR'
    have HV := Lib.hid hv
    clear hl hl' hR hR' hv
    have hX : ∀ x y : UInt8, bits .xor .u8 (x.toNat : Int) (y.toNat : Int) = ((x ^^^ y).toNat : Int) := b_xor
    have hO : ∀ x y : UInt8, bits .or .u8 (x.toNat : Int) (y.toNat : Int) = ((x ||| y).toNat : Int) := b_or
    go_enter Tryd.func37, Tryd.ntmps37
    go_wp2_with fail
    go_loopw [14, 5] (fun v14 v5 wr => ∃ (i : Nat) (x : UInt8), i ≤ n ∧ v14 = .int .i64 i ∧ v5 = .int .u8 (x.toNat : Int) ∧ Hid (Alike l l' i x) ∧ ∃ k, wr = w.drewN k) (fun v14 _ _ => n - (intOf v14).toNat)
    case atStart => exact ⟨0, 0, by omega, rfl, rfl, Lib.hid (Alike.zero _ _), 0, rfl⟩
    case round =>
      obtain ⟨i, x, hi, rfl, rfl, HA, k, rfl⟩ := hrel
      by_cases hi1 : i < n
      · have hi2 : (i : Int) < (n : Int) := by omega
        obtain ⟨b, o, rfl, hb, hc0⟩ := HR.out.at_ (by rw [HL.out]; omega)
        obtain ⟨b', o', rfl, hb', hc0'⟩ := HR'.out.at_ (by rw [HL'.out]; omega)
        have hc : w.cell? ⟨b, o + i, none⟩ = some (.int .u8 ((l.getD i 0).toNat : Int)) := hc0 i (by rw [HL.out]; exact hi1)
        have hc' : w.cell? ⟨b', o' + i, none⟩ = some (.int .u8 ((l'.getD i 0).toNat : Int)) := hc0' i (by rw [HL'.out]; exact hi1)
        have HN := Lib.hid (HA.out.next)
        clear hc0 hc0' hb hb'
        obtain ⟨p, hp⟩ : ∃ p, p = l.getD i 0 := ⟨_, rfl⟩
        obtain ⟨q, hq⟩ : ∃ q, q = l'.getD i 0 := ⟨_, rfl⟩
        rw [← hp] at hc HN
        rw [← hq] at hc' HN
        clear hp hq
        go_wp2_with fail
        go_quiet (fail)
        go_wp2_with fail
        go_roundw
        case rel => exact ⟨i + 1, _, by omega, by go_num, (by rw [← b_or, UInt8.toNat_xor]), HN, _, rfl⟩
        case measure => simp [intOf]; omega
      · have hi2 : (n : Int) ≤ (i : Int) := by omega
        have hE : decide (x = 0) = v := by
          rw [← HV.out]
          have h1 := HA.out
          unfold Alike at h1
          have h2 := ext_getD l l' n HL.out HL'.out
          rw [decide_eq_decide, h1, h2]
          rw [show i = n by omega]
        by_cases hx : x = 0
        · subst hx
          obtain rfl : true = v := by rw [← hE]; rfl
          go_wp2_with fail
          go_ret
          exact ⟨rfl, _, rfl⟩
        · obtain rfl : false = v := by rw [← hE, decide_eq_false hx]
          have hx2 : ¬ (x.toNat = 0) := fun h => hx (UInt8.toNat_inj.1 h)
          have hx3 : ((x.toNat : Int) == 0) = false := by rw [beq_eq_false_iff_ne]; omega
          have hx4 : 0 < x.toNat := by omega
          clear hE hx hx2
          go_wp2_with fail
          go_ret
          exact ⟨rfl, _, rfl⟩
  · obtain rfl : false = v := by
      rw [← hv, decide_eq_false]
      intro h; rw [h] at hl; omega
    have hne2 : ((n : Int) == (n' : Int)) = false := by rw [beq_eq_false_iff_ne]; omega
    have hne3 : ((n : Int) != (n' : Int)) = true := by rw [bne_iff_ne]; omega
    clear hl hl' hR hR' hv hne
    go_enter Tryd.func37, Tryd.ntmps37
    go_wp2_with fail
    go_ret
    exact ⟨rfl, 0, rfl⟩
theorem same_ok (A : Option Addr) (n c : Nat) (l : List UInt8) (A' : Option Addr) (n' c' : Nat) (l' : List UInt8) (v : Bool) (w : World) (hl : l.length = n) (hl' : l'.length = n') (hn : n ≤ 1099511627776) (hn' : n' ≤ 1099511627776)
    (hR : Rb w w.heap.size A l) (hR' : Rb w w.heap.size A' l') (hv : decide (l = l') = v) :
    Calls Tryd.prog 37 #[.slice A n c, .slice A' n' c'] w fun e w' => e = .returned (.bool v) ∧ Below w.heap.size w w' :=
  (same_q A n c l A' n' c' l' v w hl hl' hn hn' hR hR' hv).mono fun e w' ⟨h, m, hm⟩ => by
    subst hm
    exact ⟨h, Below.drewN' (Below.refl _ _) _⟩
end Go.Proofs.YtijboiepockmjaaDoor

/- A vault's methods: their contracts. (Written by gen_vt4.py.) -/
namespace Go.Proofs.YtijboiepockmjaaDoor
set_option linter.unusedVariables false
set_option maxRecDepth 100000
set_option linter.unusedSimpArgs false
open Go.RowKit

theorem vt_none {ts : List Tv} {a b : ByteArray} {y : Tv} (hy : y.t = ((fT a ts).getD zeroTv).t) (h : tkT ts a b = none) : fK b y.t.toks = none := by rw [hy]; exact h
theorem vt_some {ts : List Tv} {a b : ByteArray} {y : Tv} {k : Tk} (hy : y.t = ((fT a ts).getD zeroTv).t) (h : tkT ts a b = some k) : fK b y.t.toks = some k ∧ y.t.name = a ∧ k.name = b := ⟨by rw [hy]; exact h, by rw [hy]; exact (tkT_name h).1, (tkT_name h).2⟩
/-- What ask's calls come to, if there is no such token. -/
theorem vt_tok0 {w : World} {y : Tv} {b : ByteArray} (hr : RT1 w y) (h : fK b y.t.toks = none) : ∀ u, Below w.heap.size w u → Calls Tryd.prog 49 #[.agg (tcs y), .string b] u fun e w' => e = .returned (.tuple #[.agg #[.string ⟨#[]⟩, .string ⟨#[]⟩, .int .i64 0], .bool false]) ∧ Below u.heap.size u w' := fun u hu => by
  have := token_ok y b u (hr.on hu)
  rw [h] at this
  exact this
theorem vt_tok1 {w : World} {y : Tv} {b : ByteArray} {k : Tk} (hr : RT1 w y) (h : fK b y.t.toks = some k) : ∀ u, Below w.heap.size w u → Calls Tryd.prog 49 #[.agg (tcs y), .string b] u fun e w' => e = .returned (.tuple #[.agg #[.string k.name, .string k.sec, .int .i64 k.till], .bool true]) ∧ Below u.heap.size u w' := fun u hu => by
  have := token_ok y b u (hr.on hu)
  rw [h] at this
  exact this

set_option maxRecDepth 100000 in
set_option maxHeartbeats 4000000 in
theorem ask_good (u : World) (v mb : Nat) (c : List Tn) (g : Rev) (hv : Va u v mb c g) (p q : Nat) (a b : ByteArray) (now : Int) (cp : u.cell? ⟨p, 0, none⟩ = some (.pointer (some ⟨v, 0, none⟩))) (cq : u.cell? ⟨q, 0, none⟩ = some (.int .i64 now)) (hpl : p < u.heap.size) (hql : q < u.heap.size) :
    Calls Tryd.prog 29 #[.pointer (some ⟨v, 0, none⟩), .string a, .string b, .func (.func 33) #[] #[.pointer (some ⟨p, 0, none⟩), .pointer (some ⟨q, 0, none⟩)]] u fun e u' => e = .returned (.bool (gdB (tkN c a b) (inR g a b) now)) ∧ Below u.heap.size u u' := by
  obtain ⟨x, hz⟩ := hv
  have HFC := Lib.hid (find_cfg2 x a u hz.rc hz.few)
  have HTK := Lib.hid (hz.tk a b)
  have HSC := Lib.hid (hz.sec a b)
  have HMV := Lib.hid hz.mp
  have HKC := Lib.hid (show ∀ (k : Tk), tkN c a b = some k → a.size ≤ 140737488355328 → b.size ≤ 140737488355328 → ∀ u', Below u.heap.size u u' → Calls Tryd.prog 33 #[nk a b, .agg #[.string k.name, .string k.sec, .int .i64 k.till], .pointer (some ⟨p, 0, none⟩), .pointer (some ⟨q, 0, none⟩)] u' fun e w' => e = .returned (.bool (!inR g a b && decide (now < k.till))) ∧ Below u'.heap.size u' w' from fun k hk ha hb u' hu => by
    have HSC := Lib.hid (show ∀ k', some k = some k' → k'.sec.size ≤ 32 from fun k' e => hz.sec a b k' (hk.trans e))
    exact good1_ok u' v mb c g ⟨_, hz.on hu⟩ p q a b k.name k.sec k.till now ((hu.cell (p := ⟨p, 0, none⟩) hpl).trans cp) ((hu.cell (p := ⟨q, 0, none⟩) hql).trans cq) (Nat.lt_of_lt_of_le hpl hu.size) (Nat.lt_of_lt_of_le hql hu.size) ha hb)
  have e0 := hz.blk.cell 0
  have e1 := hz.blk.cell 1
  have e2 := hz.blk.cell 2
  have e3 := hz.blk.cell 3
  have e4 := hz.blk.cell 4
  obtain ⟨a0, a1, a2, a3, ts, A, cc⟩ := x
  obtain ⟨n, hn⟩ : ∃ n, ts.length = n := ⟨_, rfl⟩
  obtain ⟨is, his⟩ : ∃ is, (fT a ts).isSome = is := ⟨_, rfl⟩
  simp only [ccs, hn, his] at HFC
  simp only [hn] at e0 e1 e2 e3 e4
  clear hz hn his cp cq hpl hql
  go_enter Tryd.func29, Tryd.ntmps29
  cases hR : tkN c a b with
  | none =>
    have HN := Lib.hid (HTK.out.trans hR)
    clear hR HKC
    go_wp2_with (first
      | (go_at_call 48; (with_reducible refine HFC.out.mono ?_); rintro e u2 ⟨y, rfl, hy, ⟨hr, _, _⟩, hb⟩; have HT := Lib.hid (vt_tok0 hr (vt_none hy HN.out)); clear hy hr; obtain ⟨⟨yn, ya, yb, ynl, ykl⟩, yAn, ycn, yAk, yck⟩ := y; dsimp only [tcs] at HT ⊢)
      | (go_at_call 49; (with_reducible refine (HT.out _ ((Below.refl _ _).alloc (Nat.le_refl _) _)).mono ?_); rintro e u3 ⟨rfl, hb3⟩; have HB := Lib.hid (show Below u.heap.size u u3 from (hb.alloc hb.size _).trans (hb3.mono (by rw [World.size_alloc]; exact Nat.le_succ_of_le hb.size)))))
    go_ret
    exact ⟨rfl, HB.out.alloc HB.out.size _⟩
  | some k =>
    have HN := Lib.hid (HTK.out.trans hR)
    have HK2 := Lib.hid (HKC.out k hR)
    clear hR HKC HTK HSC
    go_wp2_with (first
      | (go_at_call 48; (with_reducible refine HFC.out.mono ?_); rintro e u2 ⟨y, rfl, hy, ⟨hr, _, _⟩, hb⟩; obtain ⟨s1, s2, s3⟩ := vt_some hy HN.out; have HT := Lib.hid (vt_tok1 hr s1); have HSZ := Lib.hid (And.intro hr.sz (hr.szk k (fK_name s1).2).1); clear hy hr; obtain ⟨⟨yn, ya, yb, ynl, ykl⟩, yAn, ycn, yAk, yck⟩ := y; dsimp only [tcs] at HT s1 s2 s3 HSZ ⊢; subst s2; subst s3)
      | (go_at_call 49; (with_reducible refine (HT.out _ ((Below.refl _ _).alloc (Nat.le_refl _) _)).mono ?_); rintro e u3 ⟨rfl, hb3⟩; have HB := Lib.hid (show Below u.heap.size u u3 from (hb.alloc hb.size _).trans (hb3.mono (by rw [World.size_alloc]; exact Nat.le_succ_of_le hb.size))); have HT2 := Lib.hid (Bk.new u2 44 #[.string yn, .int .i64 ya, .int .i64 yb, .slice yAn ynl.length ycn, .slice yAk ykl.length yck]); have q0 : u3.cell? ⟨u2.heap.size, 0, none⟩ = some (.string yn) := (HT2.out.below hb3 HT2.out.lt).cell 0; have q1 : (u3.alloc (.cells #[.string k.name, .string k.sec, .int .i64 k.till] 48)).cell? ⟨u2.heap.size, 0, none⟩ = some (.string yn) := ((HT2.out.below hb3 HT2.out.lt).alloc _).cell 0)
      | (go_at_call 33; (with_reducible refine (HK2.out HSZ.out.1 HSZ.out.2 _ (HB.out.alloc HB.out.size _)).mono ?_); rintro e u4 hh; obtain ⟨rfl, hh⟩ := hh))
    go_ret
    exact ⟨rfl, (HB.out.alloc HB.out.size _).trans (hh.mono (by rw [World.size_alloc]; exact Nat.le_succ_of_le HB.out.size))⟩

set_option maxRecDepth 100000 in
set_option maxHeartbeats 4000000 in
theorem ask_rev (u : World) (v mb : Nat) (c : List Tn) (g : Rev) (hv : Va u v mb c g) (hg : g.length ≤ 1099511627776) (p : Nat) (a b : ByteArray) (cp : u.cell? ⟨p, 0, none⟩ = some (.pointer (some ⟨v, 0, none⟩))) (hpl : p < u.heap.size) :
    Calls Tryd.prog 29 #[.pointer (some ⟨v, 0, none⟩), .string a, .string b, .func (.func 30) #[] #[.pointer (some ⟨p, 0, none⟩)]] u fun e u' => e = .returned (.bool (rvB (tkN c a b) (inR g a b))) ∧ Mv u' mb (rvG (tkN c a b) g a b) ∧ Ke [mb] u u' := by
  obtain ⟨x, hz⟩ := hv
  have HFC := Lib.hid (find_cfg2 x a u hz.rc hz.few)
  have HTK := Lib.hid (hz.tk a b)
  have HSC := Lib.hid (hz.sec a b)
  have HMV := Lib.hid hz.mp
  have HKC := Lib.hid (show ∀ (k : Tk), tkN c a b = some k → a.size ≤ 140737488355328 → b.size ≤ 140737488355328 → ∀ u', Below u.heap.size u u' → Calls Tryd.prog 30 #[nk a b, .agg #[.string k.name, .string k.sec, .int .i64 k.till], .pointer (some ⟨p, 0, none⟩)] u' fun e w' => e = .returned (.bool (!inR g a b)) ∧ Mv w' mb ((a, b) :: g) ∧ Ke [mb] u' w' from fun k hk ha hb u' hu => by
    have HSC := Lib.hid (show ∀ k', some k = some k' → k'.sec.size ≤ 32 from fun k' e => hz.sec a b k' (hk.trans e))
    exact revoke1_ok u' v mb c g ⟨_, hz.on hu⟩ hg p a b k.name k.sec k.till ((hu.cell (p := ⟨p, 0, none⟩) hpl).trans cp) (Nat.lt_of_lt_of_le hpl hu.size) ha hb)
  have e0 := hz.blk.cell 0
  have e1 := hz.blk.cell 1
  have e2 := hz.blk.cell 2
  have e3 := hz.blk.cell 3
  have e4 := hz.blk.cell 4
  obtain ⟨a0, a1, a2, a3, ts, A, cc⟩ := x
  obtain ⟨n, hn⟩ : ∃ n, ts.length = n := ⟨_, rfl⟩
  obtain ⟨is, his⟩ : ∃ is, (fT a ts).isSome = is := ⟨_, rfl⟩
  simp only [ccs, hn, his] at HFC
  simp only [hn] at e0 e1 e2 e3 e4
  clear hz hn his cp hpl
  go_enter Tryd.func29, Tryd.ntmps29
  cases hR : tkN c a b with
  | none =>
    have HN := Lib.hid (HTK.out.trans hR)
    clear hR HKC
    go_wp2_with (first
      | (go_at_call 48; (with_reducible refine HFC.out.mono ?_); rintro e u2 ⟨y, rfl, hy, ⟨hr, _, _⟩, hb⟩; have HT := Lib.hid (vt_tok0 hr (vt_none hy HN.out)); clear hy hr; obtain ⟨⟨yn, ya, yb, ynl, ykl⟩, yAn, ycn, yAk, yck⟩ := y; dsimp only [tcs] at HT ⊢)
      | (go_at_call 49; (with_reducible refine (HT.out _ ((Below.refl _ _).alloc (Nat.le_refl _) _)).mono ?_); rintro e u3 ⟨rfl, hb3⟩; have HB := Lib.hid (show Below u.heap.size u u3 from (hb.alloc hb.size _).trans (hb3.mono (by rw [World.size_alloc]; exact Nat.le_succ_of_le hb.size)))))
    go_ret
    exact ⟨rfl, HMV.out.ke (Ke.of (HB.out.alloc HB.out.size _)) (by simp), (Ke.of (HB.out.alloc HB.out.size _)).nil⟩
  | some k =>
    have HN := Lib.hid (HTK.out.trans hR)
    have HK2 := Lib.hid (HKC.out k hR)
    clear hR HKC HTK HSC
    go_wp2_with (first
      | (go_at_call 48; (with_reducible refine HFC.out.mono ?_); rintro e u2 ⟨y, rfl, hy, ⟨hr, _, _⟩, hb⟩; obtain ⟨s1, s2, s3⟩ := vt_some hy HN.out; have HT := Lib.hid (vt_tok1 hr s1); have HSZ := Lib.hid (And.intro hr.sz (hr.szk k (fK_name s1).2).1); clear hy hr; obtain ⟨⟨yn, ya, yb, ynl, ykl⟩, yAn, ycn, yAk, yck⟩ := y; dsimp only [tcs] at HT s1 s2 s3 HSZ ⊢; subst s2; subst s3)
      | (go_at_call 49; (with_reducible refine (HT.out _ ((Below.refl _ _).alloc (Nat.le_refl _) _)).mono ?_); rintro e u3 ⟨rfl, hb3⟩; have HB := Lib.hid (show Below u.heap.size u u3 from (hb.alloc hb.size _).trans (hb3.mono (by rw [World.size_alloc]; exact Nat.le_succ_of_le hb.size))); have HT2 := Lib.hid (Bk.new u2 44 #[.string yn, .int .i64 ya, .int .i64 yb, .slice yAn ynl.length ycn, .slice yAk ykl.length yck]); have q0 : u3.cell? ⟨u2.heap.size, 0, none⟩ = some (.string yn) := (HT2.out.below hb3 HT2.out.lt).cell 0; have q1 : (u3.alloc (.cells #[.string k.name, .string k.sec, .int .i64 k.till] 48)).cell? ⟨u2.heap.size, 0, none⟩ = some (.string yn) := ((HT2.out.below hb3 HT2.out.lt).alloc _).cell 0)
      | (go_at_call 30; (with_reducible refine (HK2.out HSZ.out.1 HSZ.out.2 _ (HB.out.alloc HB.out.size _)).mono ?_); rintro e u4 hh; obtain ⟨rfl, hh⟩ := hh))
    go_ret
    exact ⟨rfl, hh.1, (Ke.of (HB.out.alloc HB.out.size _)).nil.trans hh.2⟩

set_option maxRecDepth 100000 in
set_option maxHeartbeats 4000000 in
theorem ask_want (u : World) (v mb : Nat) (c : List Tn) (g : Rev) (hv : Va u v mb c g) (hG : Gl u) (q : Nat) (a b nn : ByteArray) (cq : u.cell? ⟨q, 0, none⟩ = some (.string nn)) (hql : q < u.heap.size) (hn : nn.size ≤ 140737488355328) :
    Calls Tryd.prog 34 #[.pointer (some ⟨v, 0, none⟩), .string a, .string b, .func (.func 35) #[] #[.pointer (some ⟨q, 0, none⟩)]] u fun e u' => e = .returned (.string ⟨(wnB (tkN c a b) a b nn).toArray⟩) ∧ Below u.heap.size u u' := by
  obtain ⟨x, hz⟩ := hv
  have HFC := Lib.hid (find_cfg2 x a u hz.rc hz.few)
  have HTK := Lib.hid (hz.tk a b)
  have HSC := Lib.hid (hz.sec a b)
  have HMV := Lib.hid hz.mp
  have HKC := Lib.hid (show ∀ (k : Tk), tkN c a b = some k → a.size ≤ 140737488355328 → b.size ≤ 140737488355328 → ∀ u', Below u.heap.size u u' → Calls Tryd.prog 35 #[nk a b, .agg #[.string k.name, .string k.sec, .int .i64 k.till], .pointer (some ⟨q, 0, none⟩)] u' fun e w' => e = .returned (.string ⟨(proofB k.sec.data.toList [a, b, nn]).toArray⟩) ∧ Below u'.heap.size u' w' from fun k hk ha hb u' hu => by
    have HSC := Lib.hid (show ∀ k', some k = some k' → k'.sec.size ≤ 32 from fun k' e => hz.sec a b k' (hk.trans e))
    exact want1_ok u' (hG.below hu hG.size) q a b k.name k.sec nn k.till ((hu.cell (p := ⟨q, 0, none⟩) hql).trans cq) (Nat.lt_of_lt_of_le hql hu.size) (HSC.out k rfl) ha hb hn)
  have e0 := hz.blk.cell 0
  have e1 := hz.blk.cell 1
  have e2 := hz.blk.cell 2
  have e3 := hz.blk.cell 3
  have e4 := hz.blk.cell 4
  obtain ⟨a0, a1, a2, a3, ts, A, cc⟩ := x
  obtain ⟨n, hn⟩ : ∃ n, ts.length = n := ⟨_, rfl⟩
  obtain ⟨is, his⟩ : ∃ is, (fT a ts).isSome = is := ⟨_, rfl⟩
  simp only [ccs, hn, his] at HFC
  simp only [hn] at e0 e1 e2 e3 e4
  clear hz hn his cq hql hG
  go_enter Tryd.func34, Tryd.ntmps34
  cases hR : tkN c a b with
  | none =>
    have HN := Lib.hid (HTK.out.trans hR)
    clear hR HKC
    go_wp2_with (first
      | (go_at_call 48; (with_reducible refine HFC.out.mono ?_); rintro e u2 ⟨y, rfl, hy, ⟨hr, _, _⟩, hb⟩; have HT := Lib.hid (vt_tok0 hr (vt_none hy HN.out)); clear hy hr; obtain ⟨⟨yn, ya, yb, ynl, ykl⟩, yAn, ycn, yAk, yck⟩ := y; dsimp only [tcs] at HT ⊢)
      | (go_at_call 49; (with_reducible refine (HT.out _ ((Below.refl _ _).alloc (Nat.le_refl _) _)).mono ?_); rintro e u3 ⟨rfl, hb3⟩; have HB := Lib.hid (show Below u.heap.size u u3 from (hb.alloc hb.size _).trans (hb3.mono (by rw [World.size_alloc]; exact Nat.le_succ_of_le hb.size)))))
    go_ret
    exact ⟨rfl, HB.out.alloc HB.out.size _⟩
  | some k =>
    have HN := Lib.hid (HTK.out.trans hR)
    have HK2 := Lib.hid (HKC.out k hR)
    clear hR HKC HTK HSC
    go_wp2_with (first
      | (go_at_call 48; (with_reducible refine HFC.out.mono ?_); rintro e u2 ⟨y, rfl, hy, ⟨hr, _, _⟩, hb⟩; obtain ⟨s1, s2, s3⟩ := vt_some hy HN.out; have HT := Lib.hid (vt_tok1 hr s1); have HSZ := Lib.hid (And.intro hr.sz (hr.szk k (fK_name s1).2).1); clear hy hr; obtain ⟨⟨yn, ya, yb, ynl, ykl⟩, yAn, ycn, yAk, yck⟩ := y; dsimp only [tcs] at HT s1 s2 s3 HSZ ⊢; subst s2; subst s3)
      | (go_at_call 49; (with_reducible refine (HT.out _ ((Below.refl _ _).alloc (Nat.le_refl _) _)).mono ?_); rintro e u3 ⟨rfl, hb3⟩; have HB := Lib.hid (show Below u.heap.size u u3 from (hb.alloc hb.size _).trans (hb3.mono (by rw [World.size_alloc]; exact Nat.le_succ_of_le hb.size))); have HT2 := Lib.hid (Bk.new u2 44 #[.string yn, .int .i64 ya, .int .i64 yb, .slice yAn ynl.length ycn, .slice yAk ykl.length yck]); have q0 : u3.cell? ⟨u2.heap.size, 0, none⟩ = some (.string yn) := (HT2.out.below hb3 HT2.out.lt).cell 0; have q1 : (u3.alloc (.cells #[.string k.name, .string k.sec, .int .i64 k.till] 48)).cell? ⟨u2.heap.size, 0, none⟩ = some (.string yn) := ((HT2.out.below hb3 HT2.out.lt).alloc _).cell 0)
      | (go_at_call 35; (with_reducible refine (HK2.out HSZ.out.1 HSZ.out.2 _ (HB.out.alloc HB.out.size _)).mono ?_); rintro e u4 hh; obtain ⟨rfl, hh⟩ := hh))
    go_ret
    exact ⟨rfl, (HB.out.alloc HB.out.size _).trans (hh.mono (by rw [World.size_alloc]; exact Nat.le_succ_of_le HB.out.size))⟩

set_option maxHeartbeats 1000000 in
theorem vgood_ok (u : World) (v mb : Nat) (c : List Tn) (g : Rev) (hv : Va u v mb c g) (a b : ByteArray) (now : Int) :
    Calls Tryd.prog 16 #[.pointer (some ⟨v, 0, none⟩), .string a, .string b, .int .i64 now] u fun e u' => e = .returned (.bool (gdB (tkN c a b) (inR g a b) now)) ∧ Below u.heap.size u u' := by
  have hb := ((Below.refl u.heap.size u).alloc (Nat.le_refl _) (.cells #[.pointer (some ⟨v, 0, none⟩)] 29)).alloc (by rw [World.size_alloc]; omega) (.cells #[.int .i64 now] 2)
  have k1 : Bk ((u.alloc (.cells #[.pointer (some ⟨v, 0, none⟩)] 29)).alloc (.cells #[.int .i64 now] 2)) u.heap.size 29 #[.pointer (some ⟨v, 0, none⟩)] := (Bk.new u _ _).alloc _
  have k2 : Bk ((u.alloc (.cells #[.pointer (some ⟨v, 0, none⟩)] 29)).alloc (.cells #[.int .i64 now] 2)) (u.heap.size + 1) 2 #[.int .i64 now] := by
    have := Bk.new (u.alloc (.cells #[.pointer (some ⟨v, 0, none⟩)] 29)) 2 #[.int .i64 now]
    rwa [World.size_alloc] at this
  have HA := Lib.hid (ask_good _ v mb c g (hv.on hb) u.heap.size (u.heap.size + 1) a b now (k1.cell 0) (k2.cell 0) k1.lt k2.lt)
  have HB := Lib.hid hb
  clear hb k1 k2 hv
  go_enter Tryd.func16, Tryd.ntmps16
  go_wp2_with (go_at_call 29; (with_reducible refine HA.out.mono ?_); rintro e u2 ⟨rfl, hb2⟩)
  go_ret
  exact ⟨rfl, HB.out.trans (hb2.mono HB.out.size)⟩
set_option maxHeartbeats 1000000 in
theorem vwant_ok (u : World) (v mb : Nat) (c : List Tn) (g : Rev) (hv : Va u v mb c g) (hG : Gl u) (a b nn : ByteArray) (hn : nn.size ≤ 140737488355328) :
    Calls Tryd.prog 18 #[.pointer (some ⟨v, 0, none⟩), .string a, .string b, .string nn] u fun e u' => e = .returned (.string ⟨(wnB (tkN c a b) a b nn).toArray⟩) ∧ Below u.heap.size u u' := by
  have hb := (Below.refl u.heap.size u).alloc (Nat.le_refl _) (.cells #[.string nn] 9)
  have k1 := Bk.new u 9 #[.string nn]
  have HA := Lib.hid (ask_want _ v mb c g (hv.on hb) (hG.below hb hG.size) u.heap.size a b nn (k1.cell 0) k1.lt hn)
  have HB := Lib.hid hb
  clear hb k1 hv hG
  go_enter Tryd.func18, Tryd.ntmps18
  go_wp2_with (go_at_call 34; (with_reducible refine HA.out.mono ?_); rintro e u2 ⟨rfl, hb2⟩)
  go_ret
  exact ⟨rfl, HB.out.trans (hb2.mono HB.out.size)⟩
set_option maxHeartbeats 1000000 in
theorem vrev_ok (u : World) (v mb : Nat) (c : List Tn) (g : Rev) (hv : Va u v mb c g) (hg : g.length ≤ 1099511627776) (a b : ByteArray) :
    Calls Tryd.prog 14 #[.pointer (some ⟨v, 0, none⟩), .string a, .string b] u fun e u' => e = .returned (.bool (rvB (tkN c a b) (inR g a b))) ∧ Va u' v mb c (rvG (tkN c a b) g a b) ∧ Ke [mb] u u' := by
  have hb := (Below.refl u.heap.size u).alloc (Nat.le_refl _) (.cells #[.pointer (some ⟨v, 0, none⟩)] 29)
  have k1 := Bk.new u 29 #[.pointer (some ⟨v, 0, none⟩)]
  obtain ⟨x, hz⟩ := hv
  have HA := Lib.hid (ask_rev _ v mb c g ⟨x, hz.on hb⟩ hg u.heap.size a b (k1.cell 0) k1.lt)
  have HB := Lib.hid hb
  have HZ := Lib.hid hz
  clear hb k1 hz
  go_enter Tryd.func14, Tryd.ntmps14
  go_wp2_with (go_at_call 29; (with_reducible refine HA.out.mono ?_); rintro e u2 ⟨rfl, hm2, hk2⟩)
  go_ret
  exact ⟨rfl, ⟨x, (HZ.out.on HB.out).own hk2 hm2⟩, (Ke.of HB.out).nil.trans hk2⟩

theorem ck_bad {w : List UInt8} {p : ByteArray} (h : w = []) : ckI true w p = 101 := by unfold ckI; rw [if_neg (by simp), if_pos (.inl h)]
theorem ck_other {w : List UInt8} {p : ByteArray} (h : w ≠ p.data.toList) : ckI true w p = 101 := by unfold ckI; rw [if_neg (by simp), if_pos (.inr h)]
theorem ck_ok {w : List UInt8} {p : ByteArray} (h0 : w ≠ []) (h : w = p.data.toList) : ckI true w p = 0 := by unfold ckI; rw [if_neg (by simp), if_neg (fun h' => h'.elim h0 (fun h2 => h2 h))]
theorem wnB_len (o : Option Tk) (a b n : ByteArray) : (wnB o a b n).length ≤ 64 := by
  unfold wnB
  split
  · simp
  · unfold proofB
    split
    · rw [hexB_len, macB_len]; decide
    · simp

set_option maxRecDepth 100000 in
set_option maxHeartbeats 4000000 in
theorem vcheck_ok (u : World) (v mb : Nat) (c : List Tn) (g : Rev) (hv : Va u v mb c g) (hG : Gl u) (a b nn pf : ByteArray) (now : Int) (hn : nn.size ≤ 140737488355328) (hp : pf.size ≤ 1099511627776) :
    Calls Tryd.prog 20 #[.pointer (some ⟨v, 0, none⟩), .string a, .string b, .string nn, .string pf, .int .i64 now] u fun e u' => e = .returned (.int .i64 (ckI (gdB (tkN c a b) (inR g a b) now) (wnB (tkN c a b) a b nn) pf)) ∧ Below u.heap.size u u' := by
  have HGD := Lib.hid (vgood_ok u v mb c g hv a b now)
  have HWN := Lib.hid (fun u' (hu : Below u.heap.size u u') => vwant_ok u' v mb c g (hv.on hu) (hG.below hu hG.size) a b nn hn)
  have HLN := Lib.hid (wnB_len (tkN c a b) a b nn)
  have HPF := Lib.hid hp
  obtain ⟨G, hGd⟩ : ∃ G, gdB (tkN c a b) (inR g a b) now = G := ⟨_, rfl⟩
  obtain ⟨W, hW⟩ : ∃ W, wnB (tkN c a b) a b nn = W := ⟨_, rfl⟩
  rw [hGd] at HGD ⊢
  rw [hW] at HWN HLN ⊢
  clear hGd hW hv hG hn hp
  go_enter Tryd.func20, Tryd.ntmps20
  cases G with
  | false =>
    go_wp2_with (go_at_call 16; (with_reducible refine HGD.out.mono ?_); rintro e u2 ⟨rfl, hb2⟩)
    go_ret
    exact ⟨rfl, hb2⟩
  | true =>
    obtain ⟨WB, hWB⟩ : ∃ WB : ByteArray, (⟨W.toArray⟩ : ByteArray) = WB := ⟨_, rfl⟩
    have HWD := Lib.hid (show WB.data.toList = W by rw [← hWB])
    have HWZ := Lib.hid (show WB.size ≤ 64 by rw [← hWB]; have := HLN.out; show W.toArray.size ≤ 64; rw [List.size_toArray]; exact this)
    rw [hWB] at HWN
    clear hWB
    go_upto_region 4 with (first
      | (go_at_call 16; (with_reducible refine HGD.out.mono ?_); rintro e u2 ⟨rfl, hb2⟩)
      | (go_at_call 18; (with_reducible refine (HWN.out _ hb2).mono ?_); rintro e u3 ⟨rfl, hb3⟩; have HB3 := Lib.hid (hb2.trans (hb3.mono hb2.size))))
    by_cases h0 : W = []
    · have hq1 : (WB.toList == []) = true := by rw [ByteArray.toList_eq, HWD.out, h0]; rfl
      have HR := Lib.hid (ck_bad (p := pf) h0)
      go_wp2
      go_ret
      exact ⟨by rw [HR.out]; rfl, HB3.out⟩
    · have hq1 : (WB.toList == []) = false := by rw [ByteArray.toList_eq, HWD.out]; cases hw : W with
        | nil => exact absurd hw h0
        | cons x l => rfl
      obtain ⟨cap, ob, hcb, hcap1, hcap2, hRB⟩ := conv_back WB (by have := HWZ.out; omega) u3
      have hbo : Below u3.heap.size u3 (u3.drew.alloc ob) := (Below.refl _ _).drew.alloc (Nat.le_refl _) _
      have hz0 : (u3.drew.alloc ob).heap.size = u3.heap.size + 1 := World.size_alloc ..
      obtain ⟨v1, hv1⟩ : ∃ v1, u3.drew.alloc ob = v1 := ⟨_, rfl⟩
      rw [hv1] at hcb hRB hbo hz0
      clear hv1
      obtain ⟨cap2, ob2, hcb2, hcap3, hcap4, hRB2⟩ := conv_back pf HPF.out v1
      have hbo2 : Below v1.heap.size v1 (v1.drew.alloc ob2) := (Below.refl _ _).drew.alloc (Nat.le_refl _) _
      obtain ⟨v2, hv2⟩ : ∃ v2, v1.drew.alloc ob2 = v2 := ⟨_, rfl⟩
      rw [hv2] at hcb2 hRB2 hbo2
      clear hv2
      have HSM := Lib.hid (same_ok (some ⟨u3.heap.size, 0, none⟩) WB.size cap WB.data.toList (some ⟨v1.heap.size, 0, none⟩) pf.size cap2 pf.data.toList (decide (WB.data.toList = pf.data.toList)) v2 rfl rfl (by have := HWZ.out; omega) HPF.out ((hRB.below hbo2 (Nat.le_refl _)).more hbo2.size) hRB2 rfl)
      have HB5 := Lib.hid (show Below u.heap.size u v2 from (HB3.out.trans (hbo.mono HB3.out.size)).trans (hbo2.mono (Nat.le_trans HB3.out.size hbo.size)))
      have HRR := Lib.hid (show (if decide (WB.data.toList = pf.data.toList) = true then (0 : Int) else 101) = ckI true W pf by
        rw [HWD.out]
        by_cases hp : W = pf.data.toList
        · rw [ck_ok h0 hp, if_pos (by simpa using hp)]
        · rw [ck_other hp, if_neg (by simpa using hp)])
      clear hRB hRB2 hbo hbo2 h0 hz0
      obtain ⟨sm, hsm⟩ : ∃ sm, decide (WB.data.toList = pf.data.toList) = sm := ⟨_, rfl⟩
      rw [hsm] at HSM HRR
      clear hsm
      cases sm with
      | false =>
        go_wp2_with (go_at_call 37; (with_reducible refine HSM.out.mono ?_); rintro e u6 ⟨rfl, hb6⟩)
        go_ret
        exact ⟨by rw [← HRR.out]; rfl, HB5.out.trans (hb6.mono HB5.out.size)⟩
      | true =>
        go_wp2_with (go_at_call 37; (with_reducible refine HSM.out.mono ?_); rintro e u6 ⟨rfl, hb6⟩)
        go_ret
        exact ⟨by rw [← HRR.out]; rfl, HB5.out.trans (hb6.mono HB5.out.size)⟩
end Go.Proofs.YtijboiepockmjaaDoor

/- Words turned: the document's own turn, great, small. -/
namespace Go.Proofs.YtijboiepockmjaaDoor
set_option linter.unusedVariables false
set_option maxRecDepth 100000
set_option linter.unusedSimpArgs false
open Go.RowKit

/-! The document's own. -/
theorem turn_ok (x n : Nat) (w : World) (hx : x < 4294967296) (h1 : 1 ≤ n) (h2 : n ≤ 31) :
    Calls Tryd.prog 95 #[wd x, .int .i64 n] w fun e w' => e = .returned (wd (rotr x n)) ∧ ∃ m, w' = w.drewN m := by
  obtain ⟨m, hm⟩ : ∃ m, n + m = 32 := ⟨32 - n, by omega⟩
  have hw2 : wrap64 (32 - (n : Int)) = (m : Int) := by unfold wrap64; omega
  have hw : IntKind.i64.wrap (32 - (n : Int)) = (m : Int) := by rw [IntKind.wrap_i64]; omega
  have e1 : (min n 32 : Nat) = n := by omega
  have e2 : (min m 32 : Nat) = m := by omega
  have e3 : (x : Int) * 2 ^ m % 4294967296 = ((wshl x m : Nat) : Int) := v_shl x m
  have e4 : (x : Int) / 2 ^ n = ((wshr x n : Nat) : Int) := w_shr x n hx
  have hO : ∀ x y : Nat, bits .or .u32 (x : Int) (y : Int) = ((wor x y : Nat) : Int) := w_or
  go_enter Tryd.func95, Tryd.ntmps95
  go_wp2_with fail
  go_quiet (fail)
  go_wp2_with fail
  go_ret
  have e5 : m = 32 - n := by omega
  rw [rotr, ← e5]
  exact ⟨rfl, _, rfl⟩

theorem rgreat_ok (x a b c : Nat) (w : World) (hx : x < 4294967296) (ha : 1 ≤ a ∧ a ≤ 31) (hb : 1 ≤ b ∧ b ≤ 31) (hc : 1 ≤ c ∧ c ≤ 31) :
    Calls Tryd.prog 85 #[wd x, .int .i64 a, .int .i64 b, .int .i64 c] w fun e w' => e = .returned (wd (great x a b c)) ∧ ∃ m, w' = w.drewN m := by
  have hX : ∀ x y : Nat, bits .xor .u32 (x : Int) (y : Int) = ((wxor x y : Nat) : Int) := w_xor
  go_enter Tryd.func85, Tryd.ntmps85
  go_wp2_with fail
  refine (turn_ok x a _ hx ha.1 ha.2).mono ?_
  rintro e w1 ⟨rfl, m1, rfl⟩
  go_wp2_with fail
  refine (turn_ok x b _ hx hb.1 hb.2).mono ?_
  rintro e w2 ⟨rfl, m2, rfl⟩
  go_wp2_with fail
  refine (turn_ok x c _ hx hc.1 hc.2).mono ?_
  rintro e w3 ⟨rfl, m3, rfl⟩
  go_wp2_with fail
  go_ret
  exact ⟨rfl, _, rfl⟩

theorem rsmall_ok (x a b c : Nat) (w : World) (hx : x < 4294967296) (ha : 1 ≤ a ∧ a ≤ 31) (hb : 1 ≤ b ∧ b ≤ 31) (hc : 1 ≤ c ∧ c ≤ 31) :
    Calls Tryd.prog 94 #[wd x, .int .i64 a, .int .i64 b, .int .i64 c] w fun e w' => e = .returned (wd (small x a b c)) ∧ ∃ m, w' = w.drewN m := by
  have hX : ∀ x y : Nat, bits .xor .u32 (x : Int) (y : Int) = ((wxor x y : Nat) : Int) := w_xor
  have hS : (x : Int) / 2 ^ c = ((wshr x c : Nat) : Int) := w_shr x c hx
  have hm : (min c 32 : Nat) = c := by omega
  go_enter Tryd.func94, Tryd.ntmps94
  go_wp2_with fail
  go_quiet (first
    | (go_at_call_of 95 (Value.int .i64 (a : Int)); exact Calls.quiet_of (turn_ok x a _ hx ha.1 ha.2))
    | (go_at_call_of 95 (Value.int .i64 (b : Int)); exact Calls.quiet_of (turn_ok x b _ hx hb.1 hb.2)))
  go_wp2_with fail
  go_ret
  exact ⟨rfl, _, rfl⟩
end Go.Proofs.YtijboiepockmjaaDoor
