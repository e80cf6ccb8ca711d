/- The walk of WireOther. (Written by gen_wother.py.) -/
import Derived.Test.YtimhjmeebahdaaaDoorWHead
import Derived.Test.YtimhjmeebahdaaaDoorOpen
import Derived.Test.YtimhjmeebahdaaaDoorWEq
import Derived.Test.YtimhjmeebahdaaaDoorConvR
namespace Go.Proofs.YtimhjmeebahdaaaDoor
set_option linter.unusedVariables false
set_option linter.unusedSimpArgs false
open Go.RowKit

/-- Two messages lie at their blocks. -/
structure Mg2 (B : Nat) (w : World) (g h : Nat) (x y : Mg) (u : World) : Prop where
  x : Bk u g 23 x.cells
  y : Bk u h 23 y.cells
  glob : Gw u
  b : Below B w u
theorem Mg2.on {B g h : Nat} {w u u' : World} {x y : Mg} (H : Mg2 B w g h x y u) (hb : Below u.heap.size u u') (hB : B ≤ w.heap.size) : Mg2 B w g h x y u' :=
  ⟨H.x.below hb H.x.lt, H.y.below hb H.y.lt, H.glob.below hb H.glob.size, H.b.trans (hb.mono (Nat.le_trans hB H.b.size))⟩
theorem Mg2.draw {B g h : Nat} {w u : World} {x y : Mg} (H : Mg2 B w g h x y u) : Mg2 B w g h x y u.drew := ⟨H.x, H.y, ⟨H.glob.size, H.glob.part⟩, H.b.drew⟩

set_option maxRecDepth 100000 in
set_option maxHeartbeats 8000000 in
theorem walk_WireOther (x y : Mg) (W : World) (wa : x.a.size ≤ 140737488355328) (wb : x.b.size ≤ 140737488355328) (va : y.a.size ≤ 140737488355328) (vb : y.b.size ≤ 140737488355328) (hG : Gw W) :
    Calls Tryd.prog 6 #[.agg x.cells, .agg y.cells] W fun e w' => e = .returned (.bool true) ∧ Below W.heap.size W w' := by
  have H0 := Lib.hid (show Mg2 W.heap.size W W.heap.size (W.heap.size + 1) x y ((W.alloc (.cells x.cells 23)).alloc (.cells y.cells 23)) from by
    have hb : Below W.heap.size W ((W.alloc (.cells x.cells 23)).alloc (.cells y.cells 23)) := by go_grown
    exact ⟨(Bk.new W 23 x.cells).alloc _, Bk.here (by simp), hG.below hb hG.size, hb⟩)
  have HG1 := Lib.hid (fun u => great_ok x u wa wb)
  have HG2 := Lib.hid (fun u => great_ok y u va vb)
  have HR1 := Lib.hid (fun u (h : Gw u) => right_ok x u h wa wb)
  have HR2 := Lib.hid (fun u (h : Gw u) => right_ok y u h va vb)
  have HP1 := Lib.hid (fun u (h : Gw u) => wput_ok x u h wa wb)
  have HP2 := Lib.hid (fun u (h : Gw u) => wput_ok y u h va vb)
  have HINJ := Lib.hid (putW_inj x y)
  obtain ⟨g1, e1⟩ : ∃ g1, decide (9000 < x.a.size + x.b.size) = g1 := ⟨_, rfl⟩
  obtain ⟨g2, e2⟩ : ∃ g2, decide (9000 < y.a.size + y.b.size) = g2 := ⟨_, rfl⟩
  rw [e1] at HG1
  rw [e2] at HG2
  obtain ⟨r1, e3⟩ : ∃ r1, rightM x = r1 := ⟨_, rfl⟩
  obtain ⟨r2, e4⟩ : ∃ r2, rightM y = r2 := ⟨_, rfl⟩
  rw [e3] at HR1 HINJ
  rw [e4] at HR2 HINJ
  obtain ⟨P, hP⟩ : ∃ P, putW x = P := ⟨_, rfl⟩
  obtain ⟨Q, hQ⟩ : ∃ Q, putW y = Q := ⟨_, rfl⟩
  have HXY := Lib.hid (show x = y → P = Q from fun h => by rw [← hP, ← hQ, h])
  rw [hP] at HP1 HINJ
  rw [hQ] at HP2 HINJ
  clear e1 e2 e3 e4 hP hQ wa wb va vb hG
  obtain ⟨k, a, b, n, m⟩ := x
  obtain ⟨k', a', b', n', m'⟩ := y
  go_enter Tryd.func6, Tryd.ntmps6
  go_wp2_with fail
  refine (whead_ok _ H0.out.glob).mono ?_
  rintro e w1 ⟨rfl, hb1⟩
  have H1 := Lib.hid (H0.out.on hb1 (Nat.le_refl _))
  clear hb1 H0
  obtain ⟨c0, c1, c2, c3, c4⟩ := bk_msg H1.out.x
  go_wp2_with fail
  clear c0 c1 c2 c3 c4
  refine (HG1.out _).mono ?_
  rintro e w2 ⟨rfl, hb2⟩
  have H2 := Lib.hid (H1.out.on hb2 (Nat.le_refl _))
  clear hb2 H1
  cases g1 with
  | true =>
    have HB := H2.out.b
    go_wp2_with fail
    go_ret
    exact ⟨rfl, HB⟩
  | false =>
  obtain ⟨c0, c1, c2, c3, c4⟩ := bk_msg H2.out.y
  go_wp2_with fail
  clear c0 c1 c2 c3 c4
  refine (HG2.out _).mono ?_
  rintro e w3 ⟨rfl, hb3⟩
  have H3 := Lib.hid (H2.out.on hb3 (Nat.le_refl _))
  clear hb3 H2
  cases g2 with
  | true =>
    have HB := H3.out.b
    go_wp2_with fail
    go_ret
    exact ⟨rfl, HB⟩
  | false =>
  obtain ⟨c0, c1, c2, c3, c4⟩ := bk_msg H3.out.x
  go_wp2_with fail
  clear c0 c1 c2 c3 c4
  refine (HR1.out _ H3.out.glob).mono ?_
  rintro e w4 ⟨rfl, hb4⟩
  have H4 := Lib.hid (H3.out.on hb4 (Nat.le_refl _))
  clear hb4 H3
  cases r1 with
  | false =>
    have HB := H4.out.b
    go_wp2_with fail
    go_ret
    exact ⟨rfl, HB⟩
  | true =>
  obtain ⟨c0, c1, c2, c3, c4⟩ := bk_msg H4.out.y
  go_wp2_with fail
  clear c0 c1 c2 c3 c4
  refine (HR2.out _ H4.out.glob).mono ?_
  rintro e w5 ⟨rfl, hb5⟩
  have H5 := Lib.hid (H4.out.on hb5 (Nat.le_refl _))
  clear hb5 H4
  cases r2 with
  | false =>
    have HB := H5.out.b
    go_wp2_with fail
    go_ret
    exact ⟨rfl, HB⟩
  | true =>
  have HINJ2 := Lib.hid (show P = Q → (⟨k, a, b, n, m⟩ : Mg) = ⟨k', a', b', n', m'⟩ from fun h => HINJ.out (by simp) (by simp) h)
  go_upto_region 4 with (fail)
  clear HINJ HG1 HG2 HR1 HR2
  have H6 := Lib.hid H5.out.draw
  clear H5
  try simp only [List.cons_append, List.nil_append]
  refine wp_region_held_drew (S := fun u => Mg2 W.heap.size W W.heap.size (W.heap.size + 1) ⟨k, a, b, n, m⟩ ⟨k', a', b', n', m'⟩ u) (by kernel_rfl) (H6.out) (fun hHeld => ?_)
  refine take_at (some 24) (i := 0) (v := ?_) rfl rfl (by kernel_rfl) (by kernel_rfl) (by kernel_rfl) (fun _ _ _ h => h) (Or.inl ⟨by kernel_rfl, ?_⟩) hHeld ?_
  rotate_left
  · intro wz hSw; go_simp; try (with_reducible rfl)
  try simp only [Act.put, List.setIfInBounds_toArray, List.set_cons_zero, List.set_cons_succ, List.getElem_toArray, List.getElem_cons_succ, List.getElem_cons_zero]
  refine take_at (some 25) (i := 1) (v := ?_) rfl rfl (by kernel_rfl) (by kernel_rfl) (by kernel_rfl) (fun _ _ _ h => h) (Or.inl ⟨by kernel_rfl, ?_⟩) hHeld ?_
  rotate_left
  · intro wz hSw; go_simp; try (with_reducible rfl)
  try simp only [Act.put, List.setIfInBounds_toArray, List.set_cons_zero, List.set_cons_succ, List.getElem_toArray, List.getElem_cons_succ, List.getElem_cons_zero]
  refine take_at (some 26) (i := 2) rfl rfl (by kernel_rfl) (by kernel_rfl) (by kernel_rfl) (fun _ _ _ h => h) (yieldsIf_load_row (by kernel_rfl) 23 (.tmp 2) rfl W.heap.size rfl 23 _ (fun w h => h.x) Tryd.underlying23 rfl (by kernel_rfl)) hHeld ?_
  try simp only [Act.put, List.setIfInBounds_toArray, List.set_cons_zero, List.set_cons_succ, List.getElem_toArray, List.getElem_cons_succ, List.getElem_cons_zero]
  refine take_at (some 29) (i := 5) rfl rfl (by kernel_rfl) (by kernel_rfl) (by kernel_rfl) (fun _ _ _ h => h) (yieldsIf_load_row (by kernel_rfl) 23 (.tmp 3) rfl (W.heap.size + 1) rfl 23 _ (fun w h => h.y) Tryd.underlying23 rfl (by kernel_rfl)) hHeld ?_
  try simp only [Act.put, List.setIfInBounds_toArray, List.set_cons_zero, List.set_cons_succ, List.getElem_toArray, List.getElem_cons_succ, List.getElem_cons_zero]
  refine take_at (some 33) (i := 9) rfl rfl (by kernel_rfl) (by kernel_rfl) (by kernel_rfl) (fun _ _ _ h => h) (yieldsIf_load_row (by kernel_rfl) 23 (.tmp 2) rfl W.heap.size rfl 23 _ (fun w h => h.x) Tryd.underlying23 rfl (by kernel_rfl)) hHeld ?_
  try simp only [Act.put, List.setIfInBounds_toArray, List.set_cons_zero, List.set_cons_succ, List.getElem_toArray, List.getElem_cons_succ, List.getElem_cons_zero]
  refine take_at (some 34) (i := 10) rfl rfl (by kernel_rfl) (by kernel_rfl) (by kernel_rfl) (fun _ _ _ h => h) (yieldsIf_load_row (by kernel_rfl) 23 (.tmp 3) rfl (W.heap.size + 1) rfl 23 _ (fun w h => h.y) Tryd.underlying23 rfl (by kernel_rfl)) hHeld ?_
  try simp only [Act.put, List.setIfInBounds_toArray, List.set_cons_zero, List.set_cons_succ, List.getElem_toArray, List.getElem_cons_succ, List.getElem_cons_zero]
  refine take_at (some 35) (i := 11) rfl rfl (by kernel_rfl) (by kernel_rfl) (by kernel_rfl) (fun _ _ _ h => h) (yieldsIf_eqm (by kernel_rfl) (.tmp 33) (.tmp 34) _ rfl ⟨k, a, b, n, m⟩ ⟨k', a', b', n', m'⟩ rfl rfl) hHeld ?_
  try simp only [Act.put, List.setIfInBounds_toArray, List.set_cons_zero, List.set_cons_succ, List.getElem_toArray, List.getElem_cons_succ, List.getElem_cons_zero]
  refine wpAnyH_ready (rs := [3]) (by kernel_rfl) (by simp) (AllReadyH.cons rfl (fun K hK => ?_) AllReadyH.nil)
  rw [if_pos (by kernel_rfl)]
  go_simp
  refine (HP1.out _ hHeld.glob).mono ?_
  rintro e u3 ⟨A3, c3, rfl, ho3, hbu⟩
  try dsimp only
  refine hK.out _ _ (hHeld.on hbu (Nat.le_refl _)) (fun hHeld => ?_)
  try simp only [Act.put, List.setIfInBounds_toArray, List.set_cons_zero, List.set_cons_succ, List.getElem_toArray, List.getElem_cons_succ, List.getElem_cons_zero]
  have hrb3 := ho3.rb
  refine wpAnyH_mono (S' := fun u => Mg2 W.heap.size W W.heap.size (W.heap.size + 1) ⟨k, a, b, n, m⟩ ⟨k', a', b', n', m'⟩ u ∧ Rb u u3.heap.size A3 P ∧ u3.heap.size ≤ u.heap.size) (fun _ h => h.1) _ _ _ _ ?_
  have hHeld := And.intro hHeld (And.intro hrb3 (Nat.le_refl u3.heap.size))
  clear ho3 hbu
  refine take_at (some 28) (i := 4) rfl rfl (by kernel_rfl) (by kernel_rfl) (by kernel_rfl) (fun _ _ _ h => h) (yieldsIf_conv (by kernel_rfl) 24 5 9 (.tmp 27) rfl A3 P.length c3 P rfl rfl (fun w h => h.2.1) Tryd.underlying24 Tryd.underlying5 Tryd.underlying9) hHeld ?_
  try simp only [Act.put, List.setIfInBounds_toArray, List.set_cons_zero, List.set_cons_succ, List.getElem_toArray, List.getElem_cons_succ, List.getElem_cons_zero]
  refine wpAnyH_ready (rs := [6]) (by kernel_rfl) (by simp) (AllReadyH.cons rfl (fun K hK => ?_) AllReadyH.nil)
  rw [if_pos (by kernel_rfl)]
  go_simp
  refine (HP2.out _ hHeld.1.glob).mono ?_
  rintro e u4 ⟨A4, c4, rfl, ho4, hbu⟩
  try dsimp only
  refine hK.out _ _ ⟨hHeld.1.on hbu (Nat.le_refl _), hHeld.2.1.below hbu hHeld.2.2, Nat.le_trans hHeld.2.2 hbu.size⟩ (fun hHeld => ?_)
  try simp only [Act.put, List.setIfInBounds_toArray, List.set_cons_zero, List.set_cons_succ, List.getElem_toArray, List.getElem_cons_succ, List.getElem_cons_zero]
  have hrb4 := ho4.rb
  refine wpAnyH_mono (S' := fun u => Mg2 W.heap.size W W.heap.size (W.heap.size + 1) ⟨k, a, b, n, m⟩ ⟨k', a', b', n', m'⟩ u ∧ Rb u u4.heap.size A4 Q ∧ Rb u u3.heap.size A3 P ∧ u3.heap.size ≤ u.heap.size) (fun _ h => ⟨h.1, h.2.2⟩) _ _ _ _ ?_
  have hHeld := And.intro hHeld.1 (And.intro hrb4 hHeld.2)
  clear ho4 hbu
  refine take_at (some 31) (i := 7) rfl rfl (by kernel_rfl) (by kernel_rfl) (by kernel_rfl) (fun _ _ _ h => h) (yieldsIf_conv (by kernel_rfl) 24 5 9 (.tmp 30) rfl A4 Q.length c4 Q rfl rfl (fun w h => h.2.1) Tryd.underlying24 Tryd.underlying5 Tryd.underlying9) hHeld ?_
  try simp only [Act.put, List.setIfInBounds_toArray, List.set_cons_zero, List.set_cons_succ, List.getElem_toArray, List.getElem_cons_succ, List.getElem_cons_zero]
  refine take_at (some 32) (i := 8) (v := ?_) rfl rfl (by kernel_rfl) (by kernel_rfl) (by kernel_rfl) (fun _ _ _ h => h) (Or.inl ⟨by kernel_rfl, ?_⟩) hHeld ?_
  rotate_left
  · intro wz hSw; go_simp; try (with_reducible rfl)
  try simp only [Act.put, List.setIfInBounds_toArray, List.set_cons_zero, List.set_cons_succ, List.getElem_toArray, List.getElem_cons_succ, List.getElem_cons_zero]
  refine take_at (some 36) (i := 12) (v := ?_) rfl rfl (by kernel_rfl) (by kernel_rfl) (by kernel_rfl) (fun _ _ _ h => h) (Or.inl ⟨by kernel_rfl, ?_⟩) hHeld ?_
  rotate_left
  · intro wz hSw; go_simp; try (with_reducible rfl)
  try simp only [Act.put, List.setIfInBounds_toArray, List.set_cons_zero, List.set_cons_succ, List.getElem_toArray, List.getElem_cons_succ, List.getElem_cons_zero]
  refine take_at (some 37) (i := 13) (v := ?_) rfl rfl (by kernel_rfl) (by kernel_rfl) (by kernel_rfl) (fun _ _ _ h => h) (Or.inl ⟨by kernel_rfl, ?_⟩) hHeld ?_
  rotate_left
  · intro wz hSw; go_simp; try (with_reducible rfl)
  try simp only [Act.put, List.setIfInBounds_toArray, List.set_cons_zero, List.set_cons_succ, List.getElem_toArray, List.getElem_cons_succ, List.getElem_cons_zero]
  refine take_at (some 4) (i := 14) (v := ?_) rfl rfl (by kernel_rfl) (by kernel_rfl) (by kernel_rfl) (fun _ _ _ h => h) (Or.inl ⟨by kernel_rfl, ?_⟩) hHeld ?_
  rotate_left
  · intro wz hSw; go_simp; try (with_reducible rfl)
  try simp only [Act.put, List.setIfInBounds_toArray, List.set_cons_zero, List.set_cons_succ, List.getElem_toArray, List.getElem_cons_succ, List.getElem_cons_zero]
  refine wpAnyH_done (by kernel_rfl) ?_ _
  have HB := Lib.hid hHeld.1.b
  have HEQ := Lib.hid (show (((bs P).toList == (bs Q).toList) == eqM ⟨k, a, b, n, m⟩ ⟨k', a', b', n', m'⟩) = true from by
    by_cases h : P = Q
    · have h2 := HINJ2.out h
      rw [← h2, eqM_same, h]; simp
    · have h1 : ((bs P).toList == (bs Q).toList) = false := by rw [bs_list, bs_list]; simpa using h
      have h2 : eqM ⟨k, a, b, n, m⟩ ⟨k', a', b', n', m'⟩ = false := by
        cases he : eqM ⟨k, a, b, n, m⟩ ⟨k', a', b', n', m'⟩ with
        | false => rfl
        | true => exact (h (HXY.out ((eqM_iff _ _).1 he))).elim
      rw [h1, h2]; rfl)
  clear hK hHeld
  go_wp2
  go_ret
  exact ⟨by rw [show (Value.bool true) = Value.bool (((bs P).toList == (bs Q).toList) == eqM ⟨k, a, b, n, m⟩ ⟨k', a', b', n', m'⟩) by rw [HEQ.out]]; rfl, HB.out⟩
end Go.Proofs.YtimhjmeebahdaaaDoor
