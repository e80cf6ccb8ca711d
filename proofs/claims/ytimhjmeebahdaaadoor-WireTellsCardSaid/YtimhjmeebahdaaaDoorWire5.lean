/- wire.readers: its contract. (Written by gen_wread.py.) -/
import Derived.Test.YtimhjmeebahdaaaDoorWire4
import Derived.Test.YtimhjmeebahdaaaDoorRow
import Derived.Deep.Cut
namespace Go.Proofs.YtimhjmeebahdaaaDoor
set_option linter.unusedVariables false
set_option linter.unusedSimpArgs false
open Go.RowKit

/-- The four of them, each behind variables of its own. -/
structure Rds (w : World) (Q : Nat → Nat) (g : Nat) : Prop where
  a : IntoAt w 57 47 31 (Q 0) g 1
  b : IntoAt w 57 47 31 (Q 1) g 2
  n : IntoAt w 59 49 33 (Q 2) g 3
  m : IntoAt w 59 49 33 (Q 3) g 4
theorem Rds.below {w w' : World} {Q : Nat → Nat} {g B : Nat} (h : Rds w Q g) (hb : Below B w w') (hB : w.heap.size ≤ B) : Rds w' Q g :=
  ⟨h.a.below hb (by have := h.a.read.lt; omega), h.b.below hb (by have := h.b.read.lt; omega), h.n.below hb (by have := h.n.read.lt; omega), h.m.below hb (by have := h.m.read.lt; omega)⟩
abbrev rdF (q : Nat) : Value := .func (.func 35) #[] #[.pointer (some ⟨q + 1, 0, none⟩), .pointer (some ⟨q, 0, none⟩)]
abbrev rdG (q : Nat) : Value := .func (.func 37) #[] #[.pointer (some ⟨q + 1, 0, none⟩), .pointer (some ⟨q, 0, none⟩)]

theorem intoS_at (g i : Nat) (u : World) :
    Calls Tryd.prog 30 #[.pointer (some ⟨g, i, none⟩), .func (.func 31) #[] #[]] u fun e u' => ∃ q, e = .returned (rdF q) ∧ u.heap.size ≤ q ∧ IntoAt u' 57 47 31 q g i ∧ Below u.heap.size u u' :=
  (intoS_ok g i u).mono fun e u' ⟨h1, h2⟩ => ⟨u.heap.size, h1, Nat.le_refl _, by
    subst h2
    refine ⟨(Bk.new _ _ _).alloc _, ?_⟩
    have := Bk.new (u.alloc (.cells #[.pointer (some ⟨g, i, none⟩)] 57)) 47 #[.func (.func 31) #[] #[]]
    simpa using this, by subst h2; go_grown⟩
theorem intoN_at (g i : Nat) (u : World) :
    Calls Tryd.prog 32 #[.pointer (some ⟨g, i, none⟩), .func (.func 33) #[] #[]] u fun e u' => ∃ q, e = .returned (rdG q) ∧ u.heap.size ≤ q ∧ IntoAt u' 59 49 33 q g i ∧ Below u.heap.size u u' :=
  (intoN_ok g i u).mono fun e u' ⟨h1, h2⟩ => ⟨u.heap.size, h1, Nat.le_refl _, by
    subst h2
    refine ⟨(Bk.new _ _ _).alloc _, ?_⟩
    have := Bk.new (u.alloc (.cells #[.pointer (some ⟨g, i, none⟩)] 59)) 49 #[.func (.func 33) #[] #[]]
    simpa using this, by subst h2; go_grown⟩

/-- The row to be filled, at block B. -/
structure RdW (B : Nat) (w u : World) : Prop where
  row : ∃ cs : Array Value, cs.size = 4 ∧ Bk u B 39 cs
  b : Below B w u
theorem RdW.on {B : Nat} {w u u' : World} (H : RdW B w u) (hb : Below u.heap.size u u') (hB : B ≤ w.heap.size) : RdW B w u' := by
  obtain ⟨cs, h1, h2⟩ := H.row
  exact ⟨⟨cs, h1, h2.below hb h2.lt⟩, H.b.trans (hb.mono (Nat.le_trans hB H.b.size))⟩
theorem rd_size : (Tryd.prog.info? 39).map (·.size) = some 4 := by kernel_rfl

set_option maxRecDepth 100000 in
set_option maxHeartbeats 4000000 in
theorem readers_ok (g : Nat) (w : World) :
    Calls Tryd.prog 18 #[.pointer (some ⟨g, 0, none⟩)] w fun e w' => ∃ Q : Nat → Nat, e = .returned (.agg #[rdF (Q 0), rdF (Q 1), rdG (Q 2), rdG (Q 3)]) ∧ (∀ j, j < 4 → w.heap.size < Q j) ∧ Rds w' Q g ∧ Below w.heap.size w w' := by
  have HC1 := Lib.hid (intoS_at g 1)
  have HC2 := Lib.hid (intoS_at g 2)
  have HC3 := Lib.hid (intoN_at g 3)
  have HC4 := Lib.hid (intoN_at g 4)
  go_enter Tryd.func18, Tryd.ntmps18
  go_upto_region 1 with (fail)
  refine gen_world (fun u => RdW w.heap.size w u ∧ u.heap.size = w.heap.size + 1) ?_ (fun w1 hw1 => ?_)
  · exact ⟨⟨⟨_, rfl, Bk.here rfl⟩, by go_grown⟩, by simp⟩
  have HW1 := Lib.hid (show RdW w.heap.size w w1.drew from ⟨hw1.1.row, hw1.1.b.drew⟩)
  have HZ := Lib.hid (show w1.drew.heap.size = w.heap.size + 1 from hw1.2)
  clear hw1
  try simp only [List.cons_append, List.nil_append]
  refine wp_region_held_drew (S := fun u => RdW w.heap.size w u) (by kernel_rfl) (HW1.out) (fun hHeld => ?_)
  refine take_at (some 3) (i := 0) (v := ?_) rfl rfl (by kernel_rfl) (by kernel_rfl) (by kernel_rfl) (fun _ _ _ h => h) (Or.inl ⟨by kernel_rfl, ?_⟩) hHeld ?_
  rotate_left
  · intro wz hSw; go_simp; try (with_reducible rfl)
  try simp only [Act.put, List.setIfInBounds_toArray, List.set_cons_zero, List.set_cons_succ, List.getElem_toArray, List.getElem_cons_succ, List.getElem_cons_zero]
  refine take_at (some 4) (i := 1) (v := ?_) rfl rfl (by kernel_rfl) (by kernel_rfl) (by kernel_rfl) (fun _ _ _ h => h) (Or.inl ⟨by kernel_rfl, ?_⟩) hHeld ?_
  rotate_left
  · intro wz hSw; go_simp; try (with_reducible rfl)
  try simp only [Act.put, List.setIfInBounds_toArray, List.set_cons_zero, List.set_cons_succ, List.getElem_toArray, List.getElem_cons_succ, List.getElem_cons_zero]
  refine take_at (some 5) (i := 2) (v := ?_) rfl rfl (by kernel_rfl) (by kernel_rfl) (by kernel_rfl) (fun _ _ _ h => h) (Or.inl ⟨by kernel_rfl, ?_⟩) hHeld ?_
  rotate_left
  · intro wz hSw; go_simp; try (with_reducible rfl)
  try simp only [Act.put, List.setIfInBounds_toArray, List.set_cons_zero, List.set_cons_succ, List.getElem_toArray, List.getElem_cons_succ, List.getElem_cons_zero]
  refine take_at (some 7) (i := 4) (v := ?_) rfl rfl (by kernel_rfl) (by kernel_rfl) (by kernel_rfl) (fun _ _ _ h => h) (Or.inl ⟨by kernel_rfl, ?_⟩) hHeld ?_
  rotate_left
  · intro wz hSw; go_simp; try (with_reducible rfl)
  try simp only [Act.put, List.setIfInBounds_toArray, List.set_cons_zero, List.set_cons_succ, List.getElem_toArray, List.getElem_cons_succ, List.getElem_cons_zero]
  refine take_at (some 8) (i := 5) (v := ?_) rfl rfl (by kernel_rfl) (by kernel_rfl) (by kernel_rfl) (fun _ _ _ h => h) (Or.inl ⟨by kernel_rfl, ?_⟩) hHeld ?_
  rotate_left
  · intro wz hSw; go_simp; try (with_reducible rfl)
  try simp only [Act.put, List.setIfInBounds_toArray, List.set_cons_zero, List.set_cons_succ, List.getElem_toArray, List.getElem_cons_succ, List.getElem_cons_zero]
  refine take_at (some 9) (i := 6) (v := ?_) rfl rfl (by kernel_rfl) (by kernel_rfl) (by kernel_rfl) (fun _ _ _ h => h) (Or.inl ⟨by kernel_rfl, ?_⟩) hHeld ?_
  rotate_left
  · intro wz hSw; go_simp; try (with_reducible rfl)
  try simp only [Act.put, List.setIfInBounds_toArray, List.set_cons_zero, List.set_cons_succ, List.getElem_toArray, List.getElem_cons_succ, List.getElem_cons_zero]
  refine take_at (some 11) (i := 8) (v := ?_) rfl rfl (by kernel_rfl) (by kernel_rfl) (by kernel_rfl) (fun _ _ _ h => h) (Or.inl ⟨by kernel_rfl, ?_⟩) hHeld ?_
  rotate_left
  · intro wz hSw; go_simp; try (with_reducible rfl)
  try simp only [Act.put, List.setIfInBounds_toArray, List.set_cons_zero, List.set_cons_succ, List.getElem_toArray, List.getElem_cons_succ, List.getElem_cons_zero]
  refine take_at (some 12) (i := 9) (v := ?_) rfl rfl (by kernel_rfl) (by kernel_rfl) (by kernel_rfl) (fun _ _ _ h => h) (Or.inl ⟨by kernel_rfl, ?_⟩) hHeld ?_
  rotate_left
  · intro wz hSw; go_simp; try (with_reducible rfl)
  try simp only [Act.put, List.setIfInBounds_toArray, List.set_cons_zero, List.set_cons_succ, List.getElem_toArray, List.getElem_cons_succ, List.getElem_cons_zero]
  refine take_at (some 13) (i := 10) (v := ?_) rfl rfl (by kernel_rfl) (by kernel_rfl) (by kernel_rfl) (fun _ _ _ h => h) (Or.inl ⟨by kernel_rfl, ?_⟩) hHeld ?_
  rotate_left
  · intro wz hSw; go_simp; try (with_reducible rfl)
  try simp only [Act.put, List.setIfInBounds_toArray, List.set_cons_zero, List.set_cons_succ, List.getElem_toArray, List.getElem_cons_succ, List.getElem_cons_zero]
  refine take_at (some 15) (i := 12) (v := ?_) rfl rfl (by kernel_rfl) (by kernel_rfl) (by kernel_rfl) (fun _ _ _ h => h) (Or.inl ⟨by kernel_rfl, ?_⟩) hHeld ?_
  rotate_left
  · intro wz hSw; go_simp; try (with_reducible rfl)
  try simp only [Act.put, List.setIfInBounds_toArray, List.set_cons_zero, List.set_cons_succ, List.getElem_toArray, List.getElem_cons_succ, List.getElem_cons_zero]
  refine take_at (some 16) (i := 13) (v := ?_) rfl rfl (by kernel_rfl) (by kernel_rfl) (by kernel_rfl) (fun _ _ _ h => h) (Or.inl ⟨by kernel_rfl, ?_⟩) hHeld ?_
  rotate_left
  · intro wz hSw; go_simp; try (with_reducible rfl)
  try simp only [Act.put, List.setIfInBounds_toArray, List.set_cons_zero, List.set_cons_succ, List.getElem_toArray, List.getElem_cons_succ, List.getElem_cons_zero]
  refine take_at (some 17) (i := 14) (v := ?_) rfl rfl (by kernel_rfl) (by kernel_rfl) (by kernel_rfl) (fun _ _ _ h => h) (Or.inl ⟨by kernel_rfl, ?_⟩) hHeld ?_
  rotate_left
  · intro wz hSw; go_simp; try (with_reducible rfl)
  try simp only [Act.put, List.setIfInBounds_toArray, List.set_cons_zero, List.set_cons_succ, List.getElem_toArray, List.getElem_cons_succ, List.getElem_cons_zero]
  refine wpAnyH_ready (rs := [3]) (by kernel_rfl) (by simp) (AllReadyH.cons rfl (fun K hK => ?_) AllReadyH.nil)
  rw [if_pos (by kernel_rfl)]
  go_simp
  refine (HC1.out _).mono ?_
  rintro e u0 ⟨q0, rfl, hq0, hi0, hbu0⟩
  try dsimp only
  refine hK.out _ _ (hHeld.on hbu0 (Nat.le_refl _)) (fun hHeld => ?_)
  try simp only [Act.put, List.setIfInBounds_toArray, List.set_cons_zero, List.set_cons_succ, List.getElem_toArray, List.getElem_cons_succ, List.getElem_cons_zero]
  have HI0 := Lib.hid hi0
  clear hi0
  refine wpAnyH_ready (rs := [7]) (by kernel_rfl) (by simp) (AllReadyH.cons rfl (fun K hK => ?_) AllReadyH.nil)
  rw [if_pos (by kernel_rfl)]
  go_simp
  refine (HC2.out _).mono ?_
  rintro e u1 ⟨q1, rfl, hq1, hi1, hbu1⟩
  try dsimp only
  refine hK.out _ _ (hHeld.on hbu1 (Nat.le_refl _)) (fun hHeld => ?_)
  try simp only [Act.put, List.setIfInBounds_toArray, List.set_cons_zero, List.set_cons_succ, List.getElem_toArray, List.getElem_cons_succ, List.getElem_cons_zero]
  have HI1 := Lib.hid hi1
  clear hi1
  refine wpAnyH_ready (rs := [11]) (by kernel_rfl) (by simp) (AllReadyH.cons rfl (fun K hK => ?_) AllReadyH.nil)
  rw [if_pos (by kernel_rfl)]
  go_simp
  refine (HC3.out _).mono ?_
  rintro e u2 ⟨q2, rfl, hq2, hi2, hbu2⟩
  try dsimp only
  refine hK.out _ _ (hHeld.on hbu2 (Nat.le_refl _)) (fun hHeld => ?_)
  try simp only [Act.put, List.setIfInBounds_toArray, List.set_cons_zero, List.set_cons_succ, List.getElem_toArray, List.getElem_cons_succ, List.getElem_cons_zero]
  have HI2 := Lib.hid hi2
  clear hi2
  refine wpAnyH_ready (rs := [15]) (by kernel_rfl) (by simp) (AllReadyH.cons rfl (fun K hK => ?_) AllReadyH.nil)
  rw [if_pos (by kernel_rfl)]
  go_simp
  refine (HC4.out _).mono ?_
  rintro e u3 ⟨q3, rfl, hq3, hi3, hbu3⟩
  try dsimp only
  refine hK.out _ _ (hHeld.on hbu3 (Nat.le_refl _)) (fun hHeld => ?_)
  try simp only [Act.put, List.setIfInBounds_toArray, List.set_cons_zero, List.set_cons_succ, List.getElem_toArray, List.getElem_cons_succ, List.getElem_cons_zero]
  have HI3 := Lib.hid hi3
  clear hi3
  refine take_at (some 19) (i := 16) (v := ?_) rfl rfl (by kernel_rfl) (by kernel_rfl) (by kernel_rfl) (fun _ _ _ h => h) (Or.inl ⟨by kernel_rfl, ?_⟩) hHeld ?_
  rotate_left
  · intro wz hSw; go_simp; try (with_reducible rfl)
  try simp only [Act.put, List.setIfInBounds_toArray, List.set_cons_zero, List.set_cons_succ, List.getElem_toArray, List.getElem_cons_succ, List.getElem_cons_zero]
  refine wpAnyH_ready (rs := [17]) (by kernel_rfl) (by simp) (AllReadyH.cons rfl (fun K hK => ?_) AllReadyH.nil)
  rw [if_pos (by kernel_rfl)]
  obtain ⟨cs, hcs, hrow⟩ := hHeld.row
  refine wp_store_row 39 (.tmp 2) (.tmp 19) rfl w.heap.size #[rdF q0, rdF q1, rdG q2, rdG q3] rfl rfl 39 cs hrow rd_size hcs (by simp [Value.oneCell']) ?_
  try dsimp only
  have hr2 : Bk (u3.setRow w.heap.size #[rdF q0, rdF q1, rdG q2, rdG q3]) w.heap.size 39 #[rdF q0, rdF q1, rdG q2, rdG q3] := hrow.setRow _
  have hb2 : Below w.heap.size w (u3.setRow w.heap.size #[rdF q0, rdF q1, rdG q2, rdG q3]) := Below.setRow hHeld.b _ (Nat.le_refl _) _
  refine hK.out _ _ ⟨⟨_, rfl, hr2⟩, hb2⟩ (fun hHeld => ?_)
  try simp only [Act.put, List.setIfInBounds_toArray, List.set_cons_zero, List.set_cons_succ, List.getElem_toArray, List.getElem_cons_succ, List.getElem_cons_zero]
  refine wpAnyH_done (by kernel_rfl) ?_ _
  go_wp2
  refine bodyPost_ret (results_cell_row rfl _ _ w.heap.size 39 _ (0, 0) _ rfl hr2 Tryd.underlying39 rfl rd_size) rfl ?_
  have z0 := HZ.out
  have s0 := hbu0.size
  have s1 := hbu1.size
  have s2 := hbu2.size
  have far : ∀ {tp tf : TypeId} {f : FuncId} {q i : Nat}, IntoAt u3 tp tf f q g i → w.heap.size < q → IntoAt (u3.setRow w.heap.size #[rdF q0, rdF q1, rdG q2, rdG q3]) tp tf f q g i := fun h hq => ⟨h.there.setRowFar (by omega) _, h.read.setRowFar (by omega) _⟩
  refine ⟨fun j => match j with | 0 => q0 | 1 => q1 | 2 => q2 | _ => q3, rfl, fun j hj => ?_, ⟨?_, ?_, ?_, ?_⟩, hb2⟩
  · match j, hj with
    | 0, _ => show w.heap.size < q0; omega
    | 1, _ => show w.heap.size < q1; omega
    | 2, _ => show w.heap.size < q2; omega
    | 3, _ => show w.heap.size < q3; omega
  · exact far (((HI0.out.below hbu1 HI0.out.read.lt).below hbu2 (Nat.lt_of_lt_of_le HI0.out.read.lt s1)).below hbu3 (by have := HI0.out.read.lt; omega)) (show w.heap.size < q0 by omega)
  · exact far ((HI1.out.below hbu2 HI1.out.read.lt).below hbu3 (Nat.lt_of_lt_of_le HI1.out.read.lt s2)) (show w.heap.size < q1 by omega)
  · exact far (HI2.out.below hbu3 HI2.out.read.lt) (show w.heap.size < q2 by omega)
  · exact far HI3.out (show w.heap.size < q3 by omega)
end Go.Proofs.YtimhjmeebahdaaaDoor
