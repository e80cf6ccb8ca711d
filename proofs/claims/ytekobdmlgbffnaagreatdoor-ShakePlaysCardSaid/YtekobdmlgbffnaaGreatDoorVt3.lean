/- The closures of a vault's methods: their contracts. (Written by gen_vt3.py.) -/
import Derived.Test.YtekobdmlgbffnaaGreatDoorG10
import Derived.Test.YtekobdmlgbffnaaGreatDoorG11
namespace Go.Proofs.YtekobdmlgbffnaaGreatDoor
set_option linter.unusedVariables false
set_option maxRecDepth 100000
set_option linter.unusedSimpArgs false
open Go.RowKit

theorem gen_qH {Q : Exit → Act → World → Prop} {e : Exit} {a : Act} {w : World} (S : World → Prop) (hS : S w) (h : ∀ u, S u → Q e a u) : Q e a w := h w hS
/-- The store into the set, as one operation. -/
theorem op_vstore {o : Oper} {a : Act} {K : Act → World → Prop} {Q : Exit → Act → World → Prop} {w : World} (m x v : Operand) (hop : o.op = Op.mapUpdate 104 m x v)
    (mb : Nat) (g : Rev) (p q : ByteArray) (hm : a.eval m = .map (some mb)) (hx : a.eval x = nk p q) (hv : a.eval v = .agg #[]) (h : Mv w mb g) (hl : g.length ≤ 1099511627776) (hp : p.size ≤ 140737488355328) (hq : q.size ≤ 140737488355328)
    (hK : ∀ w', Mv w' mb ((p, q) :: g) → Ke [mb] w w' → K (a.put o.dst undef) w') : o.wp Tryz.prog a w K Q := by
  obtain ⟨w', hrun, r1, r2⟩ := h.store hl hp hq
  unfold Oper.wp
  simp [execOp, hop, hm, hx, hv, hrun, Result.andThen]
  exact hK w' r1 r2

/-- A cell stays when a map turns. -/
theorem ke_cell {w w' : World} {mb : Nat} {g : Rev} {a : Addr} {v : Value} (k : Ke [mb] w w') (hm : Mv w mb g) (h : w.cell? a = some v) : w'.cell? a = some v := by
  obtain ⟨es, ck, he⟩ := hm.block
  have hne : a.block ≠ mb := by
    intro e
    unfold World.cell? at h
    rw [e, he] at h
    simp at h
  exact (World.cell?_of_block (w := w) (a := a) (k.block a.block (World.block_lt_of_cell? w _ h) (by simpa using hne))).trans h
theorem textB_short (s : ByteArray) : (textB s).length ≤ 256 := by
  unfold textB
  split
  · rename_i h
    rw [List.length_cons]
    have : s.data.toList.length = s.size := rfl
    omega
  · simp
theorem texts3 (a b c : ByteArray) : (textsB [a, b, c]).length ≤ 549755813888 := by
  have h1 := textB_short a
  have h2 := textB_short b
  have h3 := textB_short c
  unfold textsB
  simp only [List.map_cons, List.map_nil, List.flatten_cons, List.flatten_nil, List.length_append, List.length_nil]
  omega

set_option maxRecDepth 100000 in
set_option maxHeartbeats 4000000 in
theorem good1_ok (u : World) (v mb : Nat) (c : List Tn) (g : Rev) (hv : Va u v mb c g) (p q : Nat) (a b kn ks : ByteArray) (kt now : Int) (cp : u.cell? ⟨p, 0, none⟩ = some (.pointer (some ⟨v, 0, none⟩))) (cq : u.cell? ⟨q, 0, none⟩ = some (.int .i64 now)) (hpl : p < u.heap.size) (hql : q < u.heap.size)
    (ha : a.size ≤ 140737488355328) (hb : b.size ≤ 140737488355328) :
    Calls Tryz.prog 159 #[nk a b, .agg #[.string kn, .string ks, .int .i64 kt], .pointer (some ⟨p, 0, none⟩), .pointer (some ⟨q, 0, none⟩)] u fun e u' => e = .returned (.bool (!inR g a b && decide (now < kt))) ∧ Below u.heap.size u u' := by
  obtain ⟨x, hz⟩ := hv
  have HM := Lib.hid (show ∀ u', Below u.heap.size u u' → (Instr.lookup 104 (.map (some mb)) (nk a b) true).run Tryz.prog u' = .ok (.tuple #[.agg #[], .bool (inR g a b)]) u' from fun u' hu => (hz.mp.ke (Ke.of hu) (by simp)).look ha hb)
  have HV := Lib.hid (show ∀ u', Below u.heap.size u u' → u'.cell? ⟨v, 5, none⟩ = some (.map (some mb)) from fun u' hu => (hz.blk.below hu hz.blk.lt).cell 5)
  have HP := Lib.hid (show ∀ u', Below u.heap.size u u' → u'.cell? ⟨p, 0, none⟩ = some (.pointer (some ⟨v, 0, none⟩)) ∧ u'.cell? ⟨q, 0, none⟩ = some (.int .i64 now) from fun u' hu => ⟨(hu.cell (p := ⟨p, 0, none⟩) hpl).trans cp, (hu.cell (p := ⟨q, 0, none⟩) hql).trans cq⟩)
  obtain ⟨r, hr⟩ : ∃ r, inR g a b = r := ⟨_, rfl⟩
  rw [hr] at HM ⊢
  have H1 := Lib.hid (show Bk ((u.alloc (.cells #[.string a, .string b] 119)).alloc (.cells #[.string kn, .string ks, .int .i64 kt] 37)) u.heap.size 119 #[.string a, .string b] from (Bk.new u _ _).alloc _)
  have H2 := Lib.hid (show Bk ((u.alloc (.cells #[.string a, .string b] 119)).alloc (.cells #[.string kn, .string ks, .int .i64 kt] 37)) (u.heap.size + 1) 37 #[.string kn, .string ks, .int .i64 kt] by have := Bk.new (u.alloc (.cells #[.string a, .string b] 119)) 37 #[.string kn, .string ks, .int .i64 kt]; rwa [World.size_alloc] at this)
  have HL := Lib.hid (show Below u.heap.size u ((u.alloc (.cells #[.string a, .string b] 119)).alloc (.cells #[.string kn, .string ks, .int .i64 kt] 37)) from ((Below.refl u.heap.size u).alloc (Nat.le_refl _) _).alloc (by rw [World.size_alloc]; omega) _)
  clear hz cp cq hpl hql ha hb hr
  go_enter Tryz.func159, Tryz.ntmps159
  go_upto_region 1 with fail
  try simp only [List.cons_append, List.nil_append]
  obtain ⟨v0, hv0⟩ : ∃ v, (u.alloc (.cells #[.string a, .string b] 119)).alloc (.cells #[.string kn, .string ks, .int .i64 kt] 37) = v := ⟨_, rfl⟩
  rw [hv0] at H1 H2 HL ⊢
  clear hv0
  have HSZ := Lib.hid HL.out.size
  try simp only [List.cons_append, List.nil_append]
  refine wp_region_held_drew (S := fun wz => Below v0.heap.size v0 wz) (by kernel_rfl) ((Below.refl _ _).drew) (fun hHeld => ?_)
  refine take_at (some 10) (i := 0) (v := ?_) rfl rfl (by kernel_rfl) (by kernel_rfl) (by kernel_rfl) (fun _ _ _ h => h) (Or.inl ⟨by kernel_rfl, ?_⟩) hHeld ?_
  rotate_left
  · intro wz hSw; have hbu := HL.out.trans (hSw.mono HSZ.out); have m0 := HM.out wz hbu; have m1 := HV.out wz hbu; have m2 := (HP.out wz hbu).1; have hn := H1.out.below hSw H1.out.lt; have n0 : wz.cell? ⟨u.heap.size, 0, none⟩ = some (.string a) := hn.cell 0; have n1 : wz.cell? ⟨u.heap.size, 1, none⟩ = some (.string b) := hn.cell 1; clear hn; go_simp; try (with_reducible rfl)
  try simp only [Act.put, List.setIfInBounds_toArray, List.set_cons_zero, List.set_cons_succ, List.getElem_toArray, List.getElem_cons_succ, List.getElem_cons_zero]
  refine take_at (some 11) (i := 1) (v := ?_) rfl rfl (by kernel_rfl) (by kernel_rfl) (by kernel_rfl) (fun _ _ _ h => h) (Or.inl ⟨by kernel_rfl, ?_⟩) hHeld ?_
  rotate_left
  · intro wz hSw; have hbu := HL.out.trans (hSw.mono HSZ.out); have m0 := HM.out wz hbu; have m1 := HV.out wz hbu; have m2 := (HP.out wz hbu).1; have hn := H1.out.below hSw H1.out.lt; have n0 : wz.cell? ⟨u.heap.size, 0, none⟩ = some (.string a) := hn.cell 0; have n1 : wz.cell? ⟨u.heap.size, 1, none⟩ = some (.string b) := hn.cell 1; clear hn; go_simp; try (with_reducible rfl)
  try simp only [Act.put, List.setIfInBounds_toArray, List.set_cons_zero, List.set_cons_succ, List.getElem_toArray, List.getElem_cons_succ, List.getElem_cons_zero]
  refine take_at (some 12) (i := 2) (v := ?_) rfl rfl (by kernel_rfl) (by kernel_rfl) (by kernel_rfl) (fun _ _ _ h => h) (Or.inl ⟨by kernel_rfl, ?_⟩) hHeld ?_
  rotate_left
  · intro wz hSw; have hbu := HL.out.trans (hSw.mono HSZ.out); have m0 := HM.out wz hbu; have m1 := HV.out wz hbu; have m2 := (HP.out wz hbu).1; have hn := H1.out.below hSw H1.out.lt; have n0 : wz.cell? ⟨u.heap.size, 0, none⟩ = some (.string a) := hn.cell 0; have n1 : wz.cell? ⟨u.heap.size, 1, none⟩ = some (.string b) := hn.cell 1; clear hn; go_simp; try (with_reducible rfl)
  try simp only [Act.put, List.setIfInBounds_toArray, List.set_cons_zero, List.set_cons_succ, List.getElem_toArray, List.getElem_cons_succ, List.getElem_cons_zero]
  refine take_at (some 13) (i := 3) (v := ?_) rfl rfl (by kernel_rfl) (by kernel_rfl) (by kernel_rfl) (fun _ _ _ h => h) (Or.inl ⟨by kernel_rfl, ?_⟩) hHeld ?_
  rotate_left
  · intro wz hSw; have hbu := HL.out.trans (hSw.mono HSZ.out); have m0 := HM.out wz hbu; have m1 := HV.out wz hbu; have m2 := (HP.out wz hbu).1; have hn := H1.out.below hSw H1.out.lt; have n0 : wz.cell? ⟨u.heap.size, 0, none⟩ = some (.string a) := hn.cell 0; have n1 : wz.cell? ⟨u.heap.size, 1, none⟩ = some (.string b) := hn.cell 1; clear hn; go_simp; try (with_reducible rfl)
  try simp only [Act.put, List.setIfInBounds_toArray, List.set_cons_zero, List.set_cons_succ, List.getElem_toArray, List.getElem_cons_succ, List.getElem_cons_zero]
  refine take_at (some 14) (i := 4) (v := ?_) rfl rfl (by kernel_rfl) (by kernel_rfl) (by kernel_rfl) (fun _ _ _ h => h) (Or.inl ⟨by kernel_rfl, ?_⟩) hHeld ?_
  rotate_left
  · intro wz hSw; have hbu := HL.out.trans (hSw.mono HSZ.out); have m0 := HM.out wz hbu; have m1 := HV.out wz hbu; have m2 := (HP.out wz hbu).1; have hn := H1.out.below hSw H1.out.lt; have n0 : wz.cell? ⟨u.heap.size, 0, none⟩ = some (.string a) := hn.cell 0; have n1 : wz.cell? ⟨u.heap.size, 1, none⟩ = some (.string b) := hn.cell 1; clear hn; go_simp; try (with_reducible rfl)
  try simp only [Act.put, List.setIfInBounds_toArray, List.set_cons_zero, List.set_cons_succ, List.getElem_toArray, List.getElem_cons_succ, List.getElem_cons_zero]
  refine take_at (some 15) (i := 5) (v := ?_) rfl rfl (by kernel_rfl) (by kernel_rfl) (by kernel_rfl) (fun _ _ _ h => h) (Or.inl ⟨by kernel_rfl, ?_⟩) hHeld ?_
  rotate_left
  · intro wz hSw; have hbu := HL.out.trans (hSw.mono HSZ.out); have m0 := HM.out wz hbu; have m1 := HV.out wz hbu; have m2 := (HP.out wz hbu).1; have hn := H1.out.below hSw H1.out.lt; have n0 : wz.cell? ⟨u.heap.size, 0, none⟩ = some (.string a) := hn.cell 0; have n1 : wz.cell? ⟨u.heap.size, 1, none⟩ = some (.string b) := hn.cell 1; clear hn; go_simp; try (with_reducible rfl)
  try simp only [Act.put, List.setIfInBounds_toArray, List.set_cons_zero, List.set_cons_succ, List.getElem_toArray, List.getElem_cons_succ, List.getElem_cons_zero]
  refine take_at (some 9) (i := 6) (v := ?_) rfl rfl (by kernel_rfl) (by kernel_rfl) (by kernel_rfl) (fun _ _ _ h => h) (Or.inl ⟨by kernel_rfl, ?_⟩) hHeld ?_
  rotate_left
  · intro wz hSw; have hbu := HL.out.trans (hSw.mono HSZ.out); have m0 := HM.out wz hbu; have m1 := HV.out wz hbu; have m2 := (HP.out wz hbu).1; have hn := H1.out.below hSw H1.out.lt; have n0 : wz.cell? ⟨u.heap.size, 0, none⟩ = some (.string a) := hn.cell 0; have n1 : wz.cell? ⟨u.heap.size, 1, none⟩ = some (.string b) := hn.cell 1; clear hn; go_simp; try (with_reducible rfl)
  try simp only [Act.put, List.setIfInBounds_toArray, List.set_cons_zero, List.set_cons_succ, List.getElem_toArray, List.getElem_cons_succ, List.getElem_cons_zero]
  refine take_at (some 16) (i := 7) (v := ?_) rfl rfl (by kernel_rfl) (by kernel_rfl) (by kernel_rfl) (fun _ _ _ h => h) (Or.inl ⟨by kernel_rfl, ?_⟩) hHeld ?_
  rotate_left
  · intro wz hSw; have hbu := HL.out.trans (hSw.mono HSZ.out); have m0 := HM.out wz hbu; have m1 := HV.out wz hbu; have m2 := (HP.out wz hbu).1; have hn := H1.out.below hSw H1.out.lt; have n0 : wz.cell? ⟨u.heap.size, 0, none⟩ = some (.string a) := hn.cell 0; have n1 : wz.cell? ⟨u.heap.size, 1, none⟩ = some (.string b) := hn.cell 1; clear hn; go_simp; try (with_reducible rfl)
  try simp only [Act.put, List.setIfInBounds_toArray, List.set_cons_zero, List.set_cons_succ, List.getElem_toArray, List.getElem_cons_succ, List.getElem_cons_zero]
  refine take_at (some 17) (i := 8) (v := ?_) rfl rfl (by kernel_rfl) (by kernel_rfl) (by kernel_rfl) (fun _ _ _ h => h) (Or.inl ⟨by kernel_rfl, ?_⟩) hHeld ?_
  rotate_left
  · intro wz hSw; have hbu := HL.out.trans (hSw.mono HSZ.out); have m0 := HM.out wz hbu; have m1 := HV.out wz hbu; have m2 := (HP.out wz hbu).1; have hn := H1.out.below hSw H1.out.lt; have n0 : wz.cell? ⟨u.heap.size, 0, none⟩ = some (.string a) := hn.cell 0; have n1 : wz.cell? ⟨u.heap.size, 1, none⟩ = some (.string b) := hn.cell 1; clear hn; go_simp; try (with_reducible rfl)
  try simp only [Act.put, List.setIfInBounds_toArray, List.set_cons_zero, List.set_cons_succ, List.getElem_toArray, List.getElem_cons_succ, List.getElem_cons_zero]
  refine wpAnyH_ready (rs := [9]) (by kernel_rfl) (by simp) (AllReadyH.cons rfl (fun K hK => ?_) AllReadyH.nil)
  rw [if_pos (by kernel_rfl)]
  go_simp
  refine hK.out _ _ ((Below.refl _ _).drew.alloc (Nat.le_refl _) _) (fun hHeld => ?_)
  try simp only [Act.put, List.setIfInBounds_toArray, List.set_cons_zero, List.set_cons_succ, List.getElem_toArray, List.getElem_cons_succ, List.getElem_cons_zero]
  refine wpAnyH_ready (rs := [10]) (by kernel_rfl) (by simp) (AllReadyH.cons rfl (fun K hK => ?_) AllReadyH.nil)
  rw [if_pos (by kernel_rfl)]
  go_simp
  refine hK.out _ _ hHeld (fun hHeld => ?_)
  try simp only [Act.put, List.setIfInBounds_toArray, List.set_cons_zero, List.set_cons_succ, List.getElem_toArray, List.getElem_cons_succ, List.getElem_cons_zero]
  refine wpAnyH_ready (rs := [11]) (by kernel_rfl) (by simp) (AllReadyH.cons rfl (fun K hK => ?_) AllReadyH.nil)
  rw [if_pos (by kernel_rfl)]
  go_simp
  refine hK.out _ _ hHeld (fun hHeld => ?_)
  try simp only [Act.put, List.setIfInBounds_toArray, List.set_cons_zero, List.set_cons_succ, List.getElem_toArray, List.getElem_cons_succ, List.getElem_cons_zero]
  refine wpAnyH_done (by kernel_rfl) ?_ _
  refine gen_qH (fun y => Below u.heap.size u y ∧ Bk y (u.heap.size + 1) 37 #[.string kn, .string ks, .int .i64 kt]) ⟨HL.out.trans (hHeld.mono HSZ.out), H2.out.below hHeld H2.out.lt⟩ (fun y hy => ?_)
  clear hHeld
  have HL2 := Lib.hid hy.1
  have HK2 := Lib.hid hy.2
  clear hy
  have y0 : y.cell? ⟨u.heap.size + 1, 2, none⟩ = some (.int .i64 kt) := HK2.out.cell 2
  obtain ⟨_, y1⟩ := HP.out y HL2.out
  cases r with
  | true =>
    go_wp2
    go_ret
    exact ⟨rfl, HL2.out⟩
  | false =>
    go_wp2
    go_ret
    exact ⟨by first | rfl | simp, HL2.out⟩

set_option maxRecDepth 100000 in
set_option maxHeartbeats 4000000 in
theorem revoke1_ok (u : World) (v mb : Nat) (c : List Tn) (g : Rev) (hv : Va u v mb c g) (hg : g.length ≤ 1099511627776) (p : Nat) (a b kn ks : ByteArray) (kt : Int) (cp : u.cell? ⟨p, 0, none⟩ = some (.pointer (some ⟨v, 0, none⟩))) (hpl : p < u.heap.size)
    (ha : a.size ≤ 140737488355328) (hb : b.size ≤ 140737488355328) :
    Calls Tryz.prog 63 #[nk a b, .agg #[.string kn, .string ks, .int .i64 kt], .pointer (some ⟨p, 0, none⟩)] u fun e u' => e = .returned (.bool (!inR g a b)) ∧ Mv u' mb ((a, b) :: g) ∧ Ke [mb] u u' := by
  obtain ⟨x, hz⟩ := hv
  have HM := Lib.hid (show ∀ u', Below u.heap.size u u' → (Instr.lookup 104 (.map (some mb)) (nk a b) true).run Tryz.prog u' = .ok (.tuple #[.agg #[], .bool (inR g a b)]) u' ∧ Mv u' mb g from fun u' hu => ⟨(hz.mp.ke (Ke.of hu) (by simp)).look ha hb, hz.mp.ke (Ke.of hu) (by simp)⟩)
  have HV := Lib.hid (show ∀ u', Below u.heap.size u u' → u'.cell? ⟨v, 5, none⟩ = some (.map (some mb)) from fun u' hu => (hz.blk.below hu hz.blk.lt).cell 5)
  have HP := Lib.hid (show ∀ u', Below u.heap.size u u' → u'.cell? ⟨p, 0, none⟩ = some (.pointer (some ⟨v, 0, none⟩)) from fun u' hu => (hu.cell (p := ⟨p, 0, none⟩) hpl).trans cp)
  have HAB := Lib.hid (And.intro hg (And.intro ha hb))
  obtain ⟨r, hr⟩ : ∃ r, inR g a b = r := ⟨_, rfl⟩
  rw [hr] at HM ⊢
  have H1 := Lib.hid (show Bk ((u.alloc (.cells #[.string a, .string b] 119)).alloc (.cells #[.string kn, .string ks, .int .i64 kt] 37)) u.heap.size 119 #[.string a, .string b] from (Bk.new u _ _).alloc _)
  have HL := Lib.hid (show Below u.heap.size u ((u.alloc (.cells #[.string a, .string b] 119)).alloc (.cells #[.string kn, .string ks, .int .i64 kt] 37)) from ((Below.refl u.heap.size u).alloc (Nat.le_refl _) _).alloc (by rw [World.size_alloc]; omega) _)
  clear hz cp hpl ha hb hr hg
  go_enter Tryz.func63, Tryz.ntmps63
  go_upto_region 1 with fail
  try simp only [List.cons_append, List.nil_append]
  obtain ⟨v0, hv0⟩ : ∃ v, (u.alloc (.cells #[.string a, .string b] 119)).alloc (.cells #[.string kn, .string ks, .int .i64 kt] 37) = v := ⟨_, rfl⟩
  rw [hv0] at H1 HL ⊢
  clear hv0
  have HSZ := Lib.hid HL.out.size
  try simp only [List.cons_append, List.nil_append]
  refine wp_region_held_drew (S := fun wz => Below v0.heap.size v0 wz) (by kernel_rfl) ((Below.refl _ _).drew) (fun hHeld => ?_)
  refine take_at (some 9) (i := 0) (v := ?_) rfl rfl (by kernel_rfl) (by kernel_rfl) (by kernel_rfl) (fun _ _ _ h => h) (Or.inl ⟨by kernel_rfl, ?_⟩) hHeld ?_
  rotate_left
  · intro wz hSw; have hbu := HL.out.trans (hSw.mono HSZ.out); have m0 := (HM.out wz hbu).1; have m1 := HV.out wz hbu; have m2 := HP.out wz hbu; have hn := H1.out.below hSw H1.out.lt; have n0 : wz.cell? ⟨u.heap.size, 0, none⟩ = some (.string a) := hn.cell 0; have n1 : wz.cell? ⟨u.heap.size, 1, none⟩ = some (.string b) := hn.cell 1; clear hn; go_simp; try (with_reducible rfl)
  try simp only [Act.put, List.setIfInBounds_toArray, List.set_cons_zero, List.set_cons_succ, List.getElem_toArray, List.getElem_cons_succ, List.getElem_cons_zero]
  refine take_at (some 10) (i := 1) (v := ?_) rfl rfl (by kernel_rfl) (by kernel_rfl) (by kernel_rfl) (fun _ _ _ h => h) (Or.inl ⟨by kernel_rfl, ?_⟩) hHeld ?_
  rotate_left
  · intro wz hSw; have hbu := HL.out.trans (hSw.mono HSZ.out); have m0 := (HM.out wz hbu).1; have m1 := HV.out wz hbu; have m2 := HP.out wz hbu; have hn := H1.out.below hSw H1.out.lt; have n0 : wz.cell? ⟨u.heap.size, 0, none⟩ = some (.string a) := hn.cell 0; have n1 : wz.cell? ⟨u.heap.size, 1, none⟩ = some (.string b) := hn.cell 1; clear hn; go_simp; try (with_reducible rfl)
  try simp only [Act.put, List.setIfInBounds_toArray, List.set_cons_zero, List.set_cons_succ, List.getElem_toArray, List.getElem_cons_succ, List.getElem_cons_zero]
  refine take_at (some 11) (i := 2) (v := ?_) rfl rfl (by kernel_rfl) (by kernel_rfl) (by kernel_rfl) (fun _ _ _ h => h) (Or.inl ⟨by kernel_rfl, ?_⟩) hHeld ?_
  rotate_left
  · intro wz hSw; have hbu := HL.out.trans (hSw.mono HSZ.out); have m0 := (HM.out wz hbu).1; have m1 := HV.out wz hbu; have m2 := HP.out wz hbu; have hn := H1.out.below hSw H1.out.lt; have n0 : wz.cell? ⟨u.heap.size, 0, none⟩ = some (.string a) := hn.cell 0; have n1 : wz.cell? ⟨u.heap.size, 1, none⟩ = some (.string b) := hn.cell 1; clear hn; go_simp; try (with_reducible rfl)
  try simp only [Act.put, List.setIfInBounds_toArray, List.set_cons_zero, List.set_cons_succ, List.getElem_toArray, List.getElem_cons_succ, List.getElem_cons_zero]
  refine take_at (some 12) (i := 3) (v := ?_) rfl rfl (by kernel_rfl) (by kernel_rfl) (by kernel_rfl) (fun _ _ _ h => h) (Or.inl ⟨by kernel_rfl, ?_⟩) hHeld ?_
  rotate_left
  · intro wz hSw; have hbu := HL.out.trans (hSw.mono HSZ.out); have m0 := (HM.out wz hbu).1; have m1 := HV.out wz hbu; have m2 := HP.out wz hbu; have hn := H1.out.below hSw H1.out.lt; have n0 : wz.cell? ⟨u.heap.size, 0, none⟩ = some (.string a) := hn.cell 0; have n1 : wz.cell? ⟨u.heap.size, 1, none⟩ = some (.string b) := hn.cell 1; clear hn; go_simp; try (with_reducible rfl)
  try simp only [Act.put, List.setIfInBounds_toArray, List.set_cons_zero, List.set_cons_succ, List.getElem_toArray, List.getElem_cons_succ, List.getElem_cons_zero]
  refine take_at (some 13) (i := 4) (v := ?_) rfl rfl (by kernel_rfl) (by kernel_rfl) (by kernel_rfl) (fun _ _ _ h => h) (Or.inl ⟨by kernel_rfl, ?_⟩) hHeld ?_
  rotate_left
  · intro wz hSw; have hbu := HL.out.trans (hSw.mono HSZ.out); have m0 := (HM.out wz hbu).1; have m1 := HV.out wz hbu; have m2 := HP.out wz hbu; have hn := H1.out.below hSw H1.out.lt; have n0 : wz.cell? ⟨u.heap.size, 0, none⟩ = some (.string a) := hn.cell 0; have n1 : wz.cell? ⟨u.heap.size, 1, none⟩ = some (.string b) := hn.cell 1; clear hn; go_simp; try (with_reducible rfl)
  try simp only [Act.put, List.setIfInBounds_toArray, List.set_cons_zero, List.set_cons_succ, List.getElem_toArray, List.getElem_cons_succ, List.getElem_cons_zero]
  refine take_at (some 14) (i := 5) (v := ?_) rfl rfl (by kernel_rfl) (by kernel_rfl) (by kernel_rfl) (fun _ _ _ h => h) (Or.inl ⟨by kernel_rfl, ?_⟩) hHeld ?_
  rotate_left
  · intro wz hSw; have hbu := HL.out.trans (hSw.mono HSZ.out); have m0 := (HM.out wz hbu).1; have m1 := HV.out wz hbu; have m2 := HP.out wz hbu; have hn := H1.out.below hSw H1.out.lt; have n0 : wz.cell? ⟨u.heap.size, 0, none⟩ = some (.string a) := hn.cell 0; have n1 : wz.cell? ⟨u.heap.size, 1, none⟩ = some (.string b) := hn.cell 1; clear hn; go_simp; try (with_reducible rfl)
  try simp only [Act.put, List.setIfInBounds_toArray, List.set_cons_zero, List.set_cons_succ, List.getElem_toArray, List.getElem_cons_succ, List.getElem_cons_zero]
  refine take_at (some 8) (i := 6) (v := ?_) rfl rfl (by kernel_rfl) (by kernel_rfl) (by kernel_rfl) (fun _ _ _ h => h) (Or.inl ⟨by kernel_rfl, ?_⟩) hHeld ?_
  rotate_left
  · intro wz hSw; have hbu := HL.out.trans (hSw.mono HSZ.out); have m0 := (HM.out wz hbu).1; have m1 := HV.out wz hbu; have m2 := HP.out wz hbu; have hn := H1.out.below hSw H1.out.lt; have n0 : wz.cell? ⟨u.heap.size, 0, none⟩ = some (.string a) := hn.cell 0; have n1 : wz.cell? ⟨u.heap.size, 1, none⟩ = some (.string b) := hn.cell 1; clear hn; go_simp; try (with_reducible rfl)
  try simp only [Act.put, List.setIfInBounds_toArray, List.set_cons_zero, List.set_cons_succ, List.getElem_toArray, List.getElem_cons_succ, List.getElem_cons_zero]
  refine take_at (some 15) (i := 7) (v := ?_) rfl rfl (by kernel_rfl) (by kernel_rfl) (by kernel_rfl) (fun _ _ _ h => h) (Or.inl ⟨by kernel_rfl, ?_⟩) hHeld ?_
  rotate_left
  · intro wz hSw; have hbu := HL.out.trans (hSw.mono HSZ.out); have m0 := (HM.out wz hbu).1; have m1 := HV.out wz hbu; have m2 := HP.out wz hbu; have hn := H1.out.below hSw H1.out.lt; have n0 : wz.cell? ⟨u.heap.size, 0, none⟩ = some (.string a) := hn.cell 0; have n1 : wz.cell? ⟨u.heap.size, 1, none⟩ = some (.string b) := hn.cell 1; clear hn; go_simp; try (with_reducible rfl)
  try simp only [Act.put, List.setIfInBounds_toArray, List.set_cons_zero, List.set_cons_succ, List.getElem_toArray, List.getElem_cons_succ, List.getElem_cons_zero]
  refine take_at (some 16) (i := 8) (v := ?_) rfl rfl (by kernel_rfl) (by kernel_rfl) (by kernel_rfl) (fun _ _ _ h => h) (Or.inl ⟨by kernel_rfl, ?_⟩) hHeld ?_
  rotate_left
  · intro wz hSw; have hbu := HL.out.trans (hSw.mono HSZ.out); have m0 := (HM.out wz hbu).1; have m1 := HV.out wz hbu; have m2 := HP.out wz hbu; have hn := H1.out.below hSw H1.out.lt; have n0 : wz.cell? ⟨u.heap.size, 0, none⟩ = some (.string a) := hn.cell 0; have n1 : wz.cell? ⟨u.heap.size, 1, none⟩ = some (.string b) := hn.cell 1; clear hn; go_simp; try (with_reducible rfl)
  try simp only [Act.put, List.setIfInBounds_toArray, List.set_cons_zero, List.set_cons_succ, List.getElem_toArray, List.getElem_cons_succ, List.getElem_cons_zero]
  refine wpAnyH_ready (rs := [9]) (by kernel_rfl) (by simp) (AllReadyH.cons rfl (fun K hK => ?_) AllReadyH.nil)
  rw [if_pos (by kernel_rfl)]
  go_simp
  refine hK.out _ _ ((Below.refl _ _).drew.alloc (Nat.le_refl _) _) (fun hHeld => ?_)
  try simp only [Act.put, List.setIfInBounds_toArray, List.set_cons_zero, List.set_cons_succ, List.getElem_toArray, List.getElem_cons_succ, List.getElem_cons_zero]
  refine wpAnyH_ready (rs := [10]) (by kernel_rfl) (by simp) (AllReadyH.cons rfl (fun K hK => ?_) AllReadyH.nil)
  rw [if_pos (by kernel_rfl)]
  go_simp
  refine hK.out _ _ hHeld (fun hHeld => ?_)
  try simp only [Act.put, List.setIfInBounds_toArray, List.set_cons_zero, List.set_cons_succ, List.getElem_toArray, List.getElem_cons_succ, List.getElem_cons_zero]
  refine wpAnyH_ready (rs := [11]) (by kernel_rfl) (by simp) (AllReadyH.cons rfl (fun K hK => ?_) AllReadyH.nil)
  rw [if_pos (by kernel_rfl)]
  go_simp
  refine hK.out _ _ hHeld (fun hHeld => ?_)
  try simp only [Act.put, List.setIfInBounds_toArray, List.set_cons_zero, List.set_cons_succ, List.getElem_toArray, List.getElem_cons_succ, List.getElem_cons_zero]
  refine wpAnyH_done (by kernel_rfl) ?_ _
  refine gen_qH (fun y => Below u.heap.size u y ∧ Bk y u.heap.size 119 #[.string a, .string b]) ⟨HL.out.trans (hHeld.mono HSZ.out), H1.out.below hHeld H1.out.lt⟩ (fun y hy => ?_)
  clear hHeld
  have HL2 := Lib.hid hy.1
  have HN2 := Lib.hid hy.2
  clear hy
  go_upto_region 2 with fail
  try simp only [List.cons_append, List.nil_append]
  have KP := Lib.hid (show ∀ wz, Ke [mb] y wz → wz.cell? ⟨p, 0, none⟩ = some (.pointer (some ⟨v, 0, none⟩)) from fun wz hw => ke_cell hw (HM.out y HL2.out).2 (HP.out y HL2.out))
  have KV := Lib.hid (show ∀ wz, Ke [mb] y wz → wz.cell? ⟨v, 5, none⟩ = some (.map (some mb)) from fun wz hw => ke_cell hw (HM.out y HL2.out).2 (HV.out y HL2.out))
  have KN := Lib.hid (show ∀ wz, Ke [mb] y wz → wz.cell? ⟨u.heap.size, 0, none⟩ = some (.string a) ∧ wz.cell? ⟨u.heap.size, 1, none⟩ = some (.string b) from fun wz hw => ⟨ke_cell hw (HM.out y HL2.out).2 (HN2.out.cell 0), ke_cell hw (HM.out y HL2.out).2 (HN2.out.cell 1)⟩)
  try simp only [List.cons_append, List.nil_append]
  refine wp_region_held_drew (S := fun wz => Ke [mb] y wz) (by kernel_rfl) ((Ke.refl _ _).drew) (fun hHeld => ?_)
  refine take_at (some 17) (i := 0) (v := ?_) rfl rfl (by kernel_rfl) (by kernel_rfl) (by kernel_rfl) (fun _ _ _ h => h) (Or.inl ⟨by kernel_rfl, ?_⟩) hHeld ?_
  rotate_left
  · intro wz hSw; have c1 := KP.out _ hSw; have c2 := KV.out _ hSw; have n0 := (KN.out _ hSw).1; have n1 := (KN.out _ hSw).2; go_simp; try (with_reducible rfl)
  try simp only [Act.put, List.setIfInBounds_toArray, List.set_cons_zero, List.set_cons_succ, List.getElem_toArray, List.getElem_cons_succ, List.getElem_cons_zero]
  refine take_at (some 18) (i := 1) (v := ?_) rfl rfl (by kernel_rfl) (by kernel_rfl) (by kernel_rfl) (fun _ _ _ h => h) (Or.inl ⟨by kernel_rfl, ?_⟩) hHeld ?_
  rotate_left
  · intro wz hSw; have c1 := KP.out _ hSw; have c2 := KV.out _ hSw; have n0 := (KN.out _ hSw).1; have n1 := (KN.out _ hSw).2; go_simp; try (with_reducible rfl)
  try simp only [Act.put, List.setIfInBounds_toArray, List.set_cons_zero, List.set_cons_succ, List.getElem_toArray, List.getElem_cons_succ, List.getElem_cons_zero]
  refine take_at (some 19) (i := 2) (v := ?_) rfl rfl (by kernel_rfl) (by kernel_rfl) (by kernel_rfl) (fun _ _ _ h => h) (Or.inl ⟨by kernel_rfl, ?_⟩) hHeld ?_
  rotate_left
  · intro wz hSw; have c1 := KP.out _ hSw; have c2 := KV.out _ hSw; have n0 := (KN.out _ hSw).1; have n1 := (KN.out _ hSw).2; go_simp; try (with_reducible rfl)
  try simp only [Act.put, List.setIfInBounds_toArray, List.set_cons_zero, List.set_cons_succ, List.getElem_toArray, List.getElem_cons_succ, List.getElem_cons_zero]
  refine take_at (some 20) (i := 3) (v := ?_) rfl rfl (by kernel_rfl) (by kernel_rfl) (by kernel_rfl) (fun _ _ _ h => h) (Or.inl ⟨by kernel_rfl, ?_⟩) hHeld ?_
  rotate_left
  · intro wz hSw; have c1 := KP.out _ hSw; have c2 := KV.out _ hSw; have n0 := (KN.out _ hSw).1; have n1 := (KN.out _ hSw).2; go_simp; try (with_reducible rfl)
  try simp only [Act.put, List.setIfInBounds_toArray, List.set_cons_zero, List.set_cons_succ, List.getElem_toArray, List.getElem_cons_succ, List.getElem_cons_zero]
  refine take_at (some 21) (i := 4) (v := ?_) rfl rfl (by kernel_rfl) (by kernel_rfl) (by kernel_rfl) (fun _ _ _ h => h) (Or.inl ⟨by kernel_rfl, ?_⟩) hHeld ?_
  rotate_left
  · intro wz hSw; have c1 := KP.out _ hSw; have c2 := KV.out _ hSw; have n0 := (KN.out _ hSw).1; have n1 := (KN.out _ hSw).2; go_simp; try (with_reducible rfl)
  try simp only [Act.put, List.setIfInBounds_toArray, List.set_cons_zero, List.set_cons_succ, List.getElem_toArray, List.getElem_cons_succ, List.getElem_cons_zero]
  refine take_at (some 22) (i := 5) (v := ?_) rfl rfl (by kernel_rfl) (by kernel_rfl) (by kernel_rfl) (fun _ _ _ h => h) (Or.inl ⟨by kernel_rfl, ?_⟩) hHeld ?_
  rotate_left
  · intro wz hSw; have c1 := KP.out _ hSw; have c2 := KV.out _ hSw; have n0 := (KN.out _ hSw).1; have n1 := (KN.out _ hSw).2; go_simp; try (with_reducible rfl)
  try simp only [Act.put, List.setIfInBounds_toArray, List.set_cons_zero, List.set_cons_succ, List.getElem_toArray, List.getElem_cons_succ, List.getElem_cons_zero]
  refine wpAnyH_ready (rs := [6]) (by kernel_rfl) (by simp) (AllReadyH.cons rfl (fun K hK => ?_) AllReadyH.nil)
  rw [if_pos (by kernel_rfl)]
  refine op_vstore (.tmp 20) (.tmp 21) (.tmp 22) rfl mb g a b rfl rfl rfl ((HM.out y HL2.out).2.ke (Ke.refl [] y).drew (by simp)) HAB.out.1 HAB.out.2.1 HAB.out.2.2 ?_
  intro y2 hm2 hk2
  refine hK.out _ _ ((Ke.refl _ _).drew.trans hk2) (fun hHeld => ?_)
  try simp only [Act.put, List.setIfInBounds_toArray, List.set_cons_zero, List.set_cons_succ, List.getElem_toArray, List.getElem_cons_succ, List.getElem_cons_zero]
  refine wpAnyH_done (by kernel_rfl) ?_ _
  refine gen_qH (fun z => Mv z mb ((a, b) :: g) ∧ Ke [mb] y z) ⟨hm2, hHeld⟩ (fun z hy => ?_)
  clear hHeld hm2 hk2
  go_wp2
  go_ret
  exact ⟨by cases r <;> rfl, hy.1, (Ke.of HL2.out).nil.trans hy.2⟩

set_option maxRecDepth 100000 in
set_option maxHeartbeats 4000000 in
theorem want1_ok (u : World) (hG : Gl u) (q : Nat) (a b kn ks nn : ByteArray) (kt : Int) (cq : u.cell? ⟨q, 0, none⟩ = some (.string nn)) (hql : q < u.heap.size) (hks : ks.size ≤ 32)
    (ha : a.size ≤ 140737488355328) (hb : b.size ≤ 140737488355328) (hn : nn.size ≤ 140737488355328) :
    Calls Tryz.prog 99 #[nk a b, .agg #[.string kn, .string ks, .int .i64 kt], .pointer (some ⟨q, 0, none⟩)] u fun e u' => e = .returned (.string ⟨(proofB ks.data.toList [a, b, nn]).toArray⟩) ∧ Below u.heap.size u u' := by
  have HP := Lib.hid (show ∀ u', Below u.heap.size u u' → u'.cell? ⟨q, 0, none⟩ = some (.string nn) from fun u' hu => (hu.cell (p := ⟨q, 0, none⟩) hql).trans cq)
  have HGB := Lib.hid (show ∀ u', Below u.heap.size u u' → Gl u' from fun u' hu => hG.below hu hG.size)
  have HTX := Lib.hid (texts3 a b nn)
  have HSM := Lib.hid (show ∀ x ∈ [a, b, nn], x.size ≤ 140737488355328 from fun x hx => by
    simp only [List.mem_cons, List.not_mem_nil, or_false] at hx
    rcases hx with rfl | rfl | rfl <;> assumption)
  have HKS := Lib.hid hks
  have H1 := Lib.hid (show Bk ((u.alloc (.cells #[.string a, .string b] 119)).alloc (.cells #[.string kn, .string ks, .int .i64 kt] 37)) u.heap.size 119 #[.string a, .string b] from (Bk.new u _ _).alloc _)
  have H2 := Lib.hid (show Bk ((u.alloc (.cells #[.string a, .string b] 119)).alloc (.cells #[.string kn, .string ks, .int .i64 kt] 37)) (u.heap.size + 1) 37 #[.string kn, .string ks, .int .i64 kt] by have := Bk.new (u.alloc (.cells #[.string a, .string b] 119)) 37 #[.string kn, .string ks, .int .i64 kt]; rwa [World.size_alloc] at this)
  have HL := Lib.hid (show Below u.heap.size u ((u.alloc (.cells #[.string a, .string b] 119)).alloc (.cells #[.string kn, .string ks, .int .i64 kt] 37)) from ((Below.refl u.heap.size u).alloc (Nat.le_refl _) _).alloc (by rw [World.size_alloc]; omega) _)
  clear hG cq hql hks ha hb hn
  go_enter Tryz.func99, Tryz.ntmps99
  go_upto_region 1 with fail
  try simp only [List.cons_append, List.nil_append]
  obtain ⟨v0, hv0⟩ : ∃ v, (u.alloc (.cells #[.string a, .string b] 119)).alloc (.cells #[.string kn, .string ks, .int .i64 kt] 37) = v := ⟨_, rfl⟩
  rw [hv0] at H1 H2 HL ⊢
  clear hv0
  obtain ⟨cap, ob, hcb, hcap1, hcap2, hRB⟩ := conv_back ks (by have := HKS.out; omega) v0
  have hbo : Below v0.heap.size v0 (v0.drew.alloc ob) := (Below.refl _ _).drew.alloc (Nat.le_refl _) _
  have hz0 : (v0.drew.alloc ob).heap.size = v0.heap.size + 1 := World.size_alloc ..
  obtain ⟨v1, hv1⟩ : ∃ v1, v0.drew.alloc ob = v1 := ⟨_, rfl⟩
  rw [hv1] at hcb hRB hbo hz0
  clear hv1
  have HSZ := Lib.hid HL.out.size
  have e1 : v0.cell? ⟨u.heap.size + 1, 1, none⟩ = some (.string ks) := H2.out.cell 1
  have n0 : v1.cell? ⟨u.heap.size, 0, none⟩ = some (.string a) := (H1.out.below hbo H1.out.lt).cell 0
  have n1 : v1.cell? ⟨u.heap.size, 1, none⟩ = some (.string b) := (H1.out.below hbo H1.out.lt).cell 1
  have n2 := HP.out _ (HL.out.trans (hbo.mono HSZ.out))
  have HPR := Lib.hid (show Calls Tryz.prog 100 #[.slice (some ⟨v0.heap.size, 0, none⟩) ks.size cap, .slice (some ⟨v0.heap.size + 1, 0, none⟩) 3 3] (v1.alloc (.cells #[.string a, .string b, .string nn] 9)) fun e w' => e = .returned (.string ⟨(proofB ks.data.toList [a, b, nn]).toArray⟩) ∧ Below u.heap.size u w' from by
    have hb2 := (Below.refl v1.heap.size v1).alloc (Nat.le_refl _) (.cells #[.string a, .string b, .string nn] 9)
    have hz := hz0
    have hbk : Bk (v1.alloc (.cells #[.string a, .string b, .string nn] 9)) (v0.heap.size + 1) 9 #[.string a, .string b, .string nn] := by
      have := Bk.new v1 9 #[.string a, .string b, .string nn]
      rwa [hz] at this
    have hl2 : Below u.heap.size u (v1.alloc (.cells #[.string a, .string b, .string nn] 9)) := (HL.out.trans (hbo.mono HSZ.out)).trans (hb2.mono (by have := HSZ.out; omega))
    refine (proof_ok (some ⟨v0.heap.size, 0, none⟩) ks.size cap ks.data.toList (some ⟨v0.heap.size + 1, 0, none⟩) 3 3 [a, b, nn] _ rfl hcap1 hcap2 (by have := HKS.out; omega) ?_ rfl (by omega) ?_ HSM.out HTX.out (HGB.out _ hl2)).mono fun e w' hh => ⟨hh.1, hl2.trans (hh.2.mono hl2.size)⟩
    · have := (hRB.below hb2 (Nat.le_refl _)).more (B' := (v1.alloc (.cells #[.string a, .string b, .string nn] 9)).heap.size) hb2.size
      exact this
    · refine .inr ⟨v0.heap.size + 1, 0, rfl, hbk.lt, fun i hi => ?_⟩
      rw [hbk.cell]
      match i, hi with
      | 0, _ => rfl
      | 1, _ => rfl
      | 2, _ => rfl)
  clear hRB hbo
  go_wp2_with (go_at_call 100; (with_reducible refine HPR.out.mono ?_); rintro e w' ⟨rfl, hb⟩)
  go_ret
  exact ⟨rfl, hb⟩
end Go.Proofs.YtekobdmlgbffnaaGreatDoor
