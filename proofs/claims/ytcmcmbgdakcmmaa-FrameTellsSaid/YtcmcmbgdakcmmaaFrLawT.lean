/- The walk of FrameTells. (Written by gen_frtells.py.) -/
import Derived.Test.YtcmcmbgdakcmmaaFrHead
import Derived.Test.YtcmcmbgdakcmmaaFrR3
import Derived.Test.YtcmcmbgdakcmmaaFrLib
namespace Go.Proofs.Ytcmcmbgdakcmmaa
set_option linter.unusedVariables false
set_option linter.unusedSimpArgs false
open Go.RowKit

/-- What lies in memory where all is held against all. -/
structure TlS (W : World) (A Ax Ay Al Ao : Option Addr) (l x : List UInt8) (C : List (List UInt8)) (u : World) : Prop where
  b : Rb u u.heap.size A l
  x_ : Rb u u.heap.size Ax x
  y_ : Rb u u.heap.size Ay x
  l_ : ∃ B, Rl u B Al C
  o : ∃ B, Rl u B Ao C
  bel : Below W.heap.size W u

theorem TlS.on {W u u' : World} {A Ax Ay Al Ao : Option Addr} {l x : List UInt8} {C : List (List UInt8)} (h : TlS W A Ax Ay Al Ao l x C u) (hb : Below u.heap.size u u') : TlS W A Ax Ay Al Ao l x C u' := by
  obtain ⟨B, h1⟩ := h.l_
  obtain ⟨B', h2⟩ := h.o
  exact ⟨h.b.on hb, h.x_.on hb, h.y_.on hb, ⟨B, h1.below hb⟩, ⟨B', h2.below hb⟩, h.bel.trans (hb.mono h.bel.size)⟩
theorem Rl.drew {w : World} {B : Nat} {A : Option Addr} {L : List (List UInt8)} (h : Rl w B A L) : Rl w.drew B A L := by
  obtain ⟨vs, h1, h2⟩ := h
  exact ⟨vs, h1.map (fun _ _ _ h => h.drew), h2⟩

set_option maxRecDepth 100000 in
set_option maxHeartbeats 8000000 in
theorem walk_FrameTells (A : Option Addr) (l : List UInt8) (n c : Nat) (W : World) (w0 : InB W A l n c) :
    Calls Try.prog 3 #[.slice A n c] W fun e w' => e = .returned (.bool true) ∧ Below W.heap.size W w' := by
  have hmx := w0.max
  have hcn := w0.cap
  have hrb := w0.rb
  have hnl := w0.nil_
  have hl := w0.len
  unfold maxLen at hmx
  clear w0
  have HNL := Lib.hid hnl
  have HL := Lib.hid hl
  have HRB := Lib.hid hrb
  clear hnl hl hrb
  go_enter Try.func3, Try.ntmps3
  go_wp2_with fail
  refine (fhead_ok _).mono ?_
  rintro e w1 ⟨rfl, hb1⟩
  have B1 := Lib.hid hb1
  clear hb1
  by_cases hg : 20000 < n
  · have hg2 : (20000 : Int) < (n : Int) := by omega
    go_wp2_with fail
    go_ret
    exact ⟨rfl, B1.out⟩
  have hg2 : ¬ (20000 : Int) < (n : Int) := by omega
  have hn9 : n ≤ 20000 := by omega
  clear hg
  have R1 := Lib.hid (HRB.out.on B1.out)
  have HF := Lib.hid (first_ok A n c l w1 HL.out hcn hmx R1.out)
  obtain ⟨P, hP⟩ : ∃ P, putF l = P := ⟨_, rfl⟩
  obtain ⟨x, hx⟩ : ∃ x, partF l = x := ⟨_, rfl⟩
  obtain ⟨q, hq⟩ : ∃ q, lenF l = q := ⟨_, rfl⟩
  obtain ⟨E, hE⟩ : ∃ E, errF l = E := ⟨_, rfl⟩
  obtain ⟨C, hC⟩ : ∃ C, cutF l = C := ⟨_, rfl⟩
  obtain ⟨D, hD⟩ : ∃ D, doneF l = D := ⟨_, rfl⟩
  obtain ⟨E2, hE2⟩ : ∃ E2, errF (restF l) = E2 := ⟨_, rfl⟩
  have HEQ := Lib.hid (And.intro hP (And.intro hx (And.intro hq (And.intro hE (And.intro hC (And.intro hD hE2))))))
  rw [hx, hq, hE] at HF
  clear hP hx hq hE hC hD hE2
  go_wp2_with fail
  refine HF.out.mono ?_
  rintro e w2 ⟨A2, c2, rfl, ho2, hn2, hb2⟩
  have R2 := Lib.hid (And.intro (R1.out.on hb2) (And.intro ho2.rb (B1.out.trans (hb2.mono B1.out.size))))
  have HF2 := rfirst_ok A n c l w2 HL.out hcn hmx R2.out.1
  rw [HEQ.out.2.1, HEQ.out.2.2.1, HEQ.out.2.2.2.1] at HF2
  have HF2 := Lib.hid HF2
  clear ho2 hn2 hb2 HF hg2
  go_wp2_with fail
  refine HF2.out.mono ?_
  rintro e w3 ⟨A3, c3, rfl, ho3, hn3, hb3⟩
  have R3 := Lib.hid (And.intro (R2.out.1.on hb3) (And.intro (R2.out.2.1.on hb3) (And.intro ho3.rb (R2.out.2.2.trans (hb3.mono R2.out.2.2.size)))))
  have HC := cut_ok A n c l w3 HL.out hcn hmx (by omega) R3.out.1
  rw [HEQ.out.2.2.2.2.1, HEQ.out.2.2.2.2.2.1, HEQ.out.2.2.2.2.2.2] at HC
  have HC := Lib.hid HC
  clear ho3 hn3 hb3 HF2
  go_wp2_with fail
  refine HC.out.mono ?_
  rintro e w4 ⟨A4, c4, rfl, ho4, hb4⟩
  have H4 := Lib.hid ho4.cap
  have R4 := Lib.hid (And.intro (R3.out.1.on hb4) (And.intro (R3.out.2.1.on hb4) (And.intro (R3.out.2.2.1.on hb4) (And.intro ho4.rl (R3.out.2.2.2.trans (hb4.mono R3.out.2.2.2.size))))))
  have HC2 := rcut_ok A n c l w4 HL.out hcn hmx (by omega) R4.out.1
  rw [HEQ.out.2.2.2.2.1, HEQ.out.2.2.2.2.2.1, HEQ.out.2.2.2.2.2.2] at HC2
  have HC2 := Lib.hid HC2
  clear ho4 hb4 HC
  go_wp2_with fail
  refine HC2.out.mono ?_
  rintro e w5 ⟨A5, c5, rfl, ho5, hb5⟩
  have H5 := Lib.hid ho5.cap
  have R5 := Lib.hid (show TlS W A A2 A3 A4 A5 l x C w5.drew from ⟨(R4.out.1.on hb5 : Rb w5 _ _ _), (R4.out.2.1.on hb5 : Rb w5 _ _ _), (R4.out.2.2.1.on hb5 : Rb w5 _ _ _), ⟨_, (R4.out.2.2.2.1.below hb5).drew⟩, ⟨_, ho5.rl.drew⟩, (R4.out.2.2.2.2.trans (hb5.mono R4.out.2.2.2.2.size)).drew⟩)
  have HPUT := Lib.hid (fun u (h : Rb u u.heap.size A l) => put_ok A n c l u HL.out HNL.out h)
  have HRPUT := Lib.hid (fun u (h : Rb u u.heap.size A l) => rput_ok A n c l u HL.out HNL.out h)
  have HSM := Lib.hid (fun u B B' (h : Rl u B A4 C) (h' : Rl u B' A5 C) => same_ok A4 C.length c4 C A5 C.length c5 C B B' u rfl rfl H4.out.1 H4.out.2 H5.out.1 H5.out.2 h h')
  rw [HEQ.out.1] at HPUT HRPUT
  rw [decide_eq_true (rfl : C = C)] at HSM
  clear ho5 hb5 HC2
  go_upto_region 8 with (fail)
  try simp only [List.cons_append, List.nil_append]
  refine wp_region_held_drew (S := fun u => TlS W A A2 A3 A4 A5 l x C u) (by kernel_rfl) (R5.out) (fun hHeld => ?_)
  refine take_at (some 45) (i := 0) (v := ?_) rfl rfl (by kernel_rfl) (by kernel_rfl) (by kernel_rfl) (fun _ _ _ h => h) (Or.inl ⟨by kernel_rfl, ?_⟩) hHeld ?_
  rotate_left
  · intro wz hSw; go_simp; try (with_reducible rfl)
  try simp only [Act.put, List.setIfInBounds_toArray, List.set_cons_zero, List.set_cons_succ, List.getElem_toArray, List.getElem_cons_succ, List.getElem_cons_zero]
  refine take_at (some 46) (i := 1) (v := ?_) rfl rfl (by kernel_rfl) (by kernel_rfl) (by kernel_rfl) (fun _ _ _ h => h) (Or.inl ⟨by kernel_rfl, ?_⟩) hHeld ?_
  rotate_left
  · intro wz hSw; go_simp; try (with_reducible rfl)
  try simp only [Act.put, List.setIfInBounds_toArray, List.set_cons_zero, List.set_cons_succ, List.getElem_toArray, List.getElem_cons_succ, List.getElem_cons_zero]
  refine take_at (some 47) (i := 2) (v := ?_) rfl rfl (by kernel_rfl) (by kernel_rfl) (by kernel_rfl) (fun _ _ _ h => h) (Or.inl ⟨by kernel_rfl, ?_⟩) hHeld ?_
  rotate_left
  · intro wz hSw; go_simp; try (with_reducible rfl)
  try simp only [Act.put, List.setIfInBounds_toArray, List.set_cons_zero, List.set_cons_succ, List.getElem_toArray, List.getElem_cons_succ, List.getElem_cons_zero]
  refine take_at (some 50) (i := 5) (v := ?_) rfl rfl (by kernel_rfl) (by kernel_rfl) (by kernel_rfl) (fun _ _ _ h => h) (Or.inl ⟨by kernel_rfl, ?_⟩) hHeld ?_
  rotate_left
  · intro wz hSw; go_simp; try (with_reducible rfl)
  try simp only [Act.put, List.setIfInBounds_toArray, List.set_cons_zero, List.set_cons_succ, List.getElem_toArray, List.getElem_cons_succ, List.getElem_cons_zero]
  refine wpAnyH_ready (rs := [3]) (by kernel_rfl) (by simp) (AllReadyH.cons rfl (fun K hK => ?_) AllReadyH.nil)
  rw [if_pos (by kernel_rfl)]
  go_simp
  refine (HPUT.out _ hHeld.b).mono ?_
  rintro e u3 ⟨A6, c6, rfl, ho6, hn6, hbu⟩
  try dsimp only
  refine hK.out _ _ (hHeld.on hbu) (fun hHeld => ?_)
  try simp only [Act.put, List.setIfInBounds_toArray, List.set_cons_zero, List.set_cons_succ, List.getElem_toArray, List.getElem_cons_succ, List.getElem_cons_zero]
  have hrb6 := ho6.rb
  refine wpAnyH_mono (S' := fun u => TlS W A A2 A3 A4 A5 l x C u ∧ Rb u u.heap.size A6 P) (fun _ h => h.1) _ _ _ _ ?_
  have hHeld := And.intro hHeld hrb6
  clear ho6 hn6 hbu
  refine take_at (some 49) (i := 4) rfl rfl (by kernel_rfl) (by kernel_rfl) (by kernel_rfl) (fun _ _ _ h => h) (yieldsIf_conv (by kernel_rfl) 22 5 9 (.tmp 48) rfl A6 P.length c6 P rfl rfl (fun w h => h.2) Try.underlying22 Try.underlying5 Try.underlying9) hHeld ?_
  try simp only [Act.put, List.setIfInBounds_toArray, List.set_cons_zero, List.set_cons_succ, List.getElem_toArray, List.getElem_cons_succ, List.getElem_cons_zero]
  refine wpAnyH_ready (rs := [6]) (by kernel_rfl) (by simp) (AllReadyH.cons rfl (fun K hK => ?_) AllReadyH.nil)
  rw [if_pos (by kernel_rfl)]
  go_simp
  refine (HRPUT.out _ hHeld.1.b).mono ?_
  rintro e u6 ⟨A7, c7, rfl, ho7, hn7, hbu⟩
  try dsimp only
  refine hK.out _ _ (⟨hHeld.1.on hbu, hHeld.2.on hbu⟩) (fun hHeld => ?_)
  try simp only [Act.put, List.setIfInBounds_toArray, List.set_cons_zero, List.set_cons_succ, List.getElem_toArray, List.getElem_cons_succ, List.getElem_cons_zero]
  have hrb7 := ho7.rb
  refine wpAnyH_mono (S' := fun u => TlS W A A2 A3 A4 A5 l x C u ∧ Rb u u.heap.size A7 P ∧ Rb u u.heap.size A6 P) (fun _ h => ⟨h.1, h.2.2⟩) _ _ _ _ ?_
  have hHeld := And.intro hHeld.1 (And.intro hrb7 hHeld.2)
  clear ho7 hn7 hbu
  refine take_at (some 52) (i := 7) rfl rfl (by kernel_rfl) (by kernel_rfl) (by kernel_rfl) (fun _ _ _ h => h) (yieldsIf_conv (by kernel_rfl) 22 5 9 (.tmp 51) rfl A7 P.length c7 P rfl rfl (fun w h => h.2.1) Try.underlying22 Try.underlying5 Try.underlying9) hHeld ?_
  try simp only [Act.put, List.setIfInBounds_toArray, List.set_cons_zero, List.set_cons_succ, List.getElem_toArray, List.getElem_cons_succ, List.getElem_cons_zero]
  refine take_at (some 53) (i := 8) (v := ?_) rfl rfl (by kernel_rfl) (by kernel_rfl) (by kernel_rfl) (fun _ _ _ h => h) (Or.inl ⟨by kernel_rfl, ?_⟩) hHeld ?_
  rotate_left
  · intro wz hSw; go_simp; try (with_reducible rfl)
  try simp only [Act.put, List.setIfInBounds_toArray, List.set_cons_zero, List.set_cons_succ, List.getElem_toArray, List.getElem_cons_succ, List.getElem_cons_zero]
  refine take_at (some 54) (i := 9) (v := ?_) rfl rfl (by kernel_rfl) (by kernel_rfl) (by kernel_rfl) (fun _ _ _ h => h) (Or.inl ⟨by kernel_rfl, ?_⟩) hHeld ?_
  rotate_left
  · intro wz hSw; go_simp; try (with_reducible rfl)
  try simp only [Act.put, List.setIfInBounds_toArray, List.set_cons_zero, List.set_cons_succ, List.getElem_toArray, List.getElem_cons_succ, List.getElem_cons_zero]
  refine take_at (some 55) (i := 10) (v := ?_) rfl rfl (by kernel_rfl) (by kernel_rfl) (by kernel_rfl) (fun _ _ _ h => h) (Or.inl ⟨by kernel_rfl, ?_⟩) hHeld ?_
  rotate_left
  · intro wz hSw; go_simp; try (with_reducible rfl)
  try simp only [Act.put, List.setIfInBounds_toArray, List.set_cons_zero, List.set_cons_succ, List.getElem_toArray, List.getElem_cons_succ, List.getElem_cons_zero]
  refine take_at (some 56) (i := 11) (v := ?_) rfl rfl (by kernel_rfl) (by kernel_rfl) (by kernel_rfl) (fun _ _ _ h => h) (Or.inl ⟨by kernel_rfl, ?_⟩) hHeld ?_
  rotate_left
  · intro wz hSw; go_simp; try (with_reducible rfl)
  try simp only [Act.put, List.setIfInBounds_toArray, List.set_cons_zero, List.set_cons_succ, List.getElem_toArray, List.getElem_cons_succ, List.getElem_cons_zero]
  refine take_at (some 57) (i := 12) rfl rfl (by kernel_rfl) (by kernel_rfl) (by kernel_rfl) (fun _ _ _ h => h) (yieldsIf_conv (by kernel_rfl) 22 5 9 (.tmp 56) rfl A2 x.length c2 x rfl rfl (fun w h => h.1.x_) Try.underlying22 Try.underlying5 Try.underlying9) hHeld ?_
  try simp only [Act.put, List.setIfInBounds_toArray, List.set_cons_zero, List.set_cons_succ, List.getElem_toArray, List.getElem_cons_succ, List.getElem_cons_zero]
  refine take_at (some 58) (i := 13) (v := ?_) rfl rfl (by kernel_rfl) (by kernel_rfl) (by kernel_rfl) (fun _ _ _ h => h) (Or.inl ⟨by kernel_rfl, ?_⟩) hHeld ?_
  rotate_left
  · intro wz hSw; go_simp; try (with_reducible rfl)
  try simp only [Act.put, List.setIfInBounds_toArray, List.set_cons_zero, List.set_cons_succ, List.getElem_toArray, List.getElem_cons_succ, List.getElem_cons_zero]
  refine take_at (some 59) (i := 14) rfl rfl (by kernel_rfl) (by kernel_rfl) (by kernel_rfl) (fun _ _ _ h => h) (yieldsIf_conv (by kernel_rfl) 22 5 9 (.tmp 58) rfl A3 x.length c3 x rfl rfl (fun w h => h.1.y_) Try.underlying22 Try.underlying5 Try.underlying9) hHeld ?_
  try simp only [Act.put, List.setIfInBounds_toArray, List.set_cons_zero, List.set_cons_succ, List.getElem_toArray, List.getElem_cons_succ, List.getElem_cons_zero]
  refine take_at (some 60) (i := 15) (v := ?_) rfl rfl (by kernel_rfl) (by kernel_rfl) (by kernel_rfl) (fun _ _ _ h => h) (Or.inl ⟨by kernel_rfl, ?_⟩) hHeld ?_
  rotate_left
  · intro wz hSw; go_simp; try (with_reducible rfl)
  try simp only [Act.put, List.setIfInBounds_toArray, List.set_cons_zero, List.set_cons_succ, List.getElem_toArray, List.getElem_cons_succ, List.getElem_cons_zero]
  refine take_at (some 61) (i := 16) (v := ?_) rfl rfl (by kernel_rfl) (by kernel_rfl) (by kernel_rfl) (fun _ _ _ h => h) (Or.inl ⟨by kernel_rfl, ?_⟩) hHeld ?_
  rotate_left
  · intro wz hSw; go_simp; try (with_reducible rfl)
  try simp only [Act.put, List.setIfInBounds_toArray, List.set_cons_zero, List.set_cons_succ, List.getElem_toArray, List.getElem_cons_succ, List.getElem_cons_zero]
  refine take_at (some 62) (i := 17) (v := ?_) rfl rfl (by kernel_rfl) (by kernel_rfl) (by kernel_rfl) (fun _ _ _ h => h) (Or.inl ⟨by kernel_rfl, ?_⟩) hHeld ?_
  rotate_left
  · intro wz hSw; go_simp; try (with_reducible rfl)
  try simp only [Act.put, List.setIfInBounds_toArray, List.set_cons_zero, List.set_cons_succ, List.getElem_toArray, List.getElem_cons_succ, List.getElem_cons_zero]
  refine take_at (some 63) (i := 18) (v := ?_) rfl rfl (by kernel_rfl) (by kernel_rfl) (by kernel_rfl) (fun _ _ _ h => h) (Or.inl ⟨by kernel_rfl, ?_⟩) hHeld ?_
  rotate_left
  · intro wz hSw; go_simp; try (with_reducible rfl)
  try simp only [Act.put, List.setIfInBounds_toArray, List.set_cons_zero, List.set_cons_succ, List.getElem_toArray, List.getElem_cons_succ, List.getElem_cons_zero]
  refine take_at (some 64) (i := 19) (v := ?_) rfl rfl (by kernel_rfl) (by kernel_rfl) (by kernel_rfl) (fun _ _ _ h => h) (Or.inl ⟨by kernel_rfl, ?_⟩) hHeld ?_
  rotate_left
  · intro wz hSw; go_simp; try (with_reducible rfl)
  try simp only [Act.put, List.setIfInBounds_toArray, List.set_cons_zero, List.set_cons_succ, List.getElem_toArray, List.getElem_cons_succ, List.getElem_cons_zero]
  refine take_at (some 65) (i := 20) (v := ?_) rfl rfl (by kernel_rfl) (by kernel_rfl) (by kernel_rfl) (fun _ _ _ h => h) (Or.inl ⟨by kernel_rfl, ?_⟩) hHeld ?_
  rotate_left
  · intro wz hSw; go_simp; try (with_reducible rfl)
  try simp only [Act.put, List.setIfInBounds_toArray, List.set_cons_zero, List.set_cons_succ, List.getElem_toArray, List.getElem_cons_succ, List.getElem_cons_zero]
  refine take_at (some 66) (i := 21) (v := ?_) rfl rfl (by kernel_rfl) (by kernel_rfl) (by kernel_rfl) (fun _ _ _ h => h) (Or.inl ⟨by kernel_rfl, ?_⟩) hHeld ?_
  rotate_left
  · intro wz hSw; go_simp; try (with_reducible rfl)
  try simp only [Act.put, List.setIfInBounds_toArray, List.set_cons_zero, List.set_cons_succ, List.getElem_toArray, List.getElem_cons_succ, List.getElem_cons_zero]
  refine take_at (some 67) (i := 22) (v := ?_) rfl rfl (by kernel_rfl) (by kernel_rfl) (by kernel_rfl) (fun _ _ _ h => h) (Or.inl ⟨by kernel_rfl, ?_⟩) hHeld ?_
  rotate_left
  · intro wz hSw; go_simp; try (with_reducible rfl)
  try simp only [Act.put, List.setIfInBounds_toArray, List.set_cons_zero, List.set_cons_succ, List.getElem_toArray, List.getElem_cons_succ, List.getElem_cons_zero]
  refine take_at (some 68) (i := 23) (v := ?_) rfl rfl (by kernel_rfl) (by kernel_rfl) (by kernel_rfl) (fun _ _ _ h => h) (Or.inl ⟨by kernel_rfl, ?_⟩) hHeld ?_
  rotate_left
  · intro wz hSw; go_simp; try (with_reducible rfl)
  try simp only [Act.put, List.setIfInBounds_toArray, List.set_cons_zero, List.set_cons_succ, List.getElem_toArray, List.getElem_cons_succ, List.getElem_cons_zero]
  refine take_at (some 69) (i := 24) (v := ?_) rfl rfl (by kernel_rfl) (by kernel_rfl) (by kernel_rfl) (fun _ _ _ h => h) (Or.inl ⟨by kernel_rfl, ?_⟩) hHeld ?_
  rotate_left
  · intro wz hSw; go_simp; try (with_reducible rfl)
  try simp only [Act.put, List.setIfInBounds_toArray, List.set_cons_zero, List.set_cons_succ, List.getElem_toArray, List.getElem_cons_succ, List.getElem_cons_zero]
  refine take_at (some 70) (i := 25) (v := ?_) rfl rfl (by kernel_rfl) (by kernel_rfl) (by kernel_rfl) (fun _ _ _ h => h) (Or.inl ⟨by kernel_rfl, ?_⟩) hHeld ?_
  rotate_left
  · intro wz hSw; go_simp; try (with_reducible rfl)
  try simp only [Act.put, List.setIfInBounds_toArray, List.set_cons_zero, List.set_cons_succ, List.getElem_toArray, List.getElem_cons_succ, List.getElem_cons_zero]
  refine take_at (some 71) (i := 26) (v := ?_) rfl rfl (by kernel_rfl) (by kernel_rfl) (by kernel_rfl) (fun _ _ _ h => h) (Or.inl ⟨by kernel_rfl, ?_⟩) hHeld ?_
  rotate_left
  · intro wz hSw; go_simp; try (with_reducible rfl)
  try simp only [Act.put, List.setIfInBounds_toArray, List.set_cons_zero, List.set_cons_succ, List.getElem_toArray, List.getElem_cons_succ, List.getElem_cons_zero]
  refine take_at (some 72) (i := 27) (v := ?_) rfl rfl (by kernel_rfl) (by kernel_rfl) (by kernel_rfl) (fun _ _ _ h => h) (Or.inl ⟨by kernel_rfl, ?_⟩) hHeld ?_
  rotate_left
  · intro wz hSw; go_simp; try (with_reducible rfl)
  try simp only [Act.put, List.setIfInBounds_toArray, List.set_cons_zero, List.set_cons_succ, List.getElem_toArray, List.getElem_cons_succ, List.getElem_cons_zero]
  refine take_at (some 73) (i := 28) (v := ?_) rfl rfl (by kernel_rfl) (by kernel_rfl) (by kernel_rfl) (fun _ _ _ h => h) (Or.inl ⟨by kernel_rfl, ?_⟩) hHeld ?_
  rotate_left
  · intro wz hSw; go_simp; try (with_reducible rfl)
  try simp only [Act.put, List.setIfInBounds_toArray, List.set_cons_zero, List.set_cons_succ, List.getElem_toArray, List.getElem_cons_succ, List.getElem_cons_zero]
  refine take_at (some 74) (i := 29) (v := ?_) rfl rfl (by kernel_rfl) (by kernel_rfl) (by kernel_rfl) (fun _ _ _ h => h) (Or.inl ⟨by kernel_rfl, ?_⟩) hHeld ?_
  rotate_left
  · intro wz hSw; go_simp; try (with_reducible rfl)
  try simp only [Act.put, List.setIfInBounds_toArray, List.set_cons_zero, List.set_cons_succ, List.getElem_toArray, List.getElem_cons_succ, List.getElem_cons_zero]
  obtain ⟨K1, hK1⟩ := hHeld.1.l_
  obtain ⟨K2, hK2⟩ := hHeld.1.o
  refine wpAnyH_ready (rs := [30]) (by kernel_rfl) (by simp) (AllReadyH.cons rfl (fun K hK => ?_) AllReadyH.nil)
  rw [if_pos (by kernel_rfl)]
  go_simp
  refine (HSM.out _ K1 K2 hK1 hK2).mono ?_
  rintro e u30 ⟨rfl, hbu⟩
  try dsimp only
  refine hK.out _ _ (⟨hHeld.1.on hbu, hHeld.2.1.on hbu, hHeld.2.2.on hbu⟩) (fun hHeld => ?_)
  try simp only [Act.put, List.setIfInBounds_toArray, List.set_cons_zero, List.set_cons_succ, List.getElem_toArray, List.getElem_cons_succ, List.getElem_cons_zero]
  clear hbu hK1 hK2
  refine take_at (some 76) (i := 31) (v := ?_) rfl rfl (by kernel_rfl) (by kernel_rfl) (by kernel_rfl) (fun _ _ _ h => h) (Or.inl ⟨by kernel_rfl, ?_⟩) hHeld ?_
  rotate_left
  · intro wz hSw; go_simp; try (with_reducible rfl)
  try simp only [Act.put, List.setIfInBounds_toArray, List.set_cons_zero, List.set_cons_succ, List.getElem_toArray, List.getElem_cons_succ, List.getElem_cons_zero]
  refine take_at (some 77) (i := 32) (v := ?_) rfl rfl (by kernel_rfl) (by kernel_rfl) (by kernel_rfl) (fun _ _ _ h => h) (Or.inl ⟨by kernel_rfl, ?_⟩) hHeld ?_
  rotate_left
  · intro wz hSw; go_simp; try (with_reducible rfl)
  try simp only [Act.put, List.setIfInBounds_toArray, List.set_cons_zero, List.set_cons_succ, List.getElem_toArray, List.getElem_cons_succ, List.getElem_cons_zero]
  refine take_at (some 78) (i := 33) (v := ?_) rfl rfl (by kernel_rfl) (by kernel_rfl) (by kernel_rfl) (fun _ _ _ h => h) (Or.inl ⟨by kernel_rfl, ?_⟩) hHeld ?_
  rotate_left
  · intro wz hSw; go_simp; try (with_reducible rfl)
  try simp only [Act.put, List.setIfInBounds_toArray, List.set_cons_zero, List.set_cons_succ, List.getElem_toArray, List.getElem_cons_succ, List.getElem_cons_zero]
  refine take_at (some 79) (i := 34) (v := ?_) rfl rfl (by kernel_rfl) (by kernel_rfl) (by kernel_rfl) (fun _ _ _ h => h) (Or.inl ⟨by kernel_rfl, ?_⟩) hHeld ?_
  rotate_left
  · intro wz hSw; go_simp; try (with_reducible rfl)
  try simp only [Act.put, List.setIfInBounds_toArray, List.set_cons_zero, List.set_cons_succ, List.getElem_toArray, List.getElem_cons_succ, List.getElem_cons_zero]
  refine take_at (some 80) (i := 35) (v := ?_) rfl rfl (by kernel_rfl) (by kernel_rfl) (by kernel_rfl) (fun _ _ _ h => h) (Or.inl ⟨by kernel_rfl, ?_⟩) hHeld ?_
  rotate_left
  · intro wz hSw; go_simp; try (with_reducible rfl)
  try simp only [Act.put, List.setIfInBounds_toArray, List.set_cons_zero, List.set_cons_succ, List.getElem_toArray, List.getElem_cons_succ, List.getElem_cons_zero]
  refine take_at (some 81) (i := 36) (v := ?_) rfl rfl (by kernel_rfl) (by kernel_rfl) (by kernel_rfl) (fun _ _ _ h => h) (Or.inl ⟨by kernel_rfl, ?_⟩) hHeld ?_
  rotate_left
  · intro wz hSw; go_simp; try (with_reducible rfl)
  try simp only [Act.put, List.setIfInBounds_toArray, List.set_cons_zero, List.set_cons_succ, List.getElem_toArray, List.getElem_cons_succ, List.getElem_cons_zero]
  refine take_at (some 82) (i := 37) (v := ?_) rfl rfl (by kernel_rfl) (by kernel_rfl) (by kernel_rfl) (fun _ _ _ h => h) (Or.inl ⟨by kernel_rfl, ?_⟩) hHeld ?_
  rotate_left
  · intro wz hSw; go_simp; try (with_reducible rfl)
  try simp only [Act.put, List.setIfInBounds_toArray, List.set_cons_zero, List.set_cons_succ, List.getElem_toArray, List.getElem_cons_succ, List.getElem_cons_zero]
  refine take_at (some 83) (i := 38) (v := ?_) rfl rfl (by kernel_rfl) (by kernel_rfl) (by kernel_rfl) (fun _ _ _ h => h) (Or.inl ⟨by kernel_rfl, ?_⟩) hHeld ?_
  rotate_left
  · intro wz hSw; go_simp; try (with_reducible rfl)
  try simp only [Act.put, List.setIfInBounds_toArray, List.set_cons_zero, List.set_cons_succ, List.getElem_toArray, List.getElem_cons_succ, List.getElem_cons_zero]
  refine take_at (some 84) (i := 39) (v := ?_) rfl rfl (by kernel_rfl) (by kernel_rfl) (by kernel_rfl) (fun _ _ _ h => h) (Or.inl ⟨by kernel_rfl, ?_⟩) hHeld ?_
  rotate_left
  · intro wz hSw; go_simp; try (with_reducible rfl)
  try simp only [Act.put, List.setIfInBounds_toArray, List.set_cons_zero, List.set_cons_succ, List.getElem_toArray, List.getElem_cons_succ, List.getElem_cons_zero]
  refine take_at (some 85) (i := 40) (v := ?_) rfl rfl (by kernel_rfl) (by kernel_rfl) (by kernel_rfl) (fun _ _ _ h => h) (Or.inl ⟨by kernel_rfl, ?_⟩) hHeld ?_
  rotate_left
  · intro wz hSw; go_simp; try (with_reducible rfl)
  try simp only [Act.put, List.setIfInBounds_toArray, List.set_cons_zero, List.set_cons_succ, List.getElem_toArray, List.getElem_cons_succ, List.getElem_cons_zero]
  refine take_at (some 86) (i := 41) (v := ?_) rfl rfl (by kernel_rfl) (by kernel_rfl) (by kernel_rfl) (fun _ _ _ h => h) (Or.inl ⟨by kernel_rfl, ?_⟩) hHeld ?_
  rotate_left
  · intro wz hSw; go_simp; try (with_reducible rfl)
  try simp only [Act.put, List.setIfInBounds_toArray, List.set_cons_zero, List.set_cons_succ, List.getElem_toArray, List.getElem_cons_succ, List.getElem_cons_zero]
  refine take_at (some 2) (i := 42) (v := ?_) rfl rfl (by kernel_rfl) (by kernel_rfl) (by kernel_rfl) (fun _ _ _ h => h) (Or.inl ⟨by kernel_rfl, ?_⟩) hHeld ?_
  rotate_left
  · intro wz hSw; go_simp; try (with_reducible rfl)
  try simp only [Act.put, List.setIfInBounds_toArray, List.set_cons_zero, List.set_cons_succ, List.getElem_toArray, List.getElem_cons_succ, List.getElem_cons_zero]
  refine wpAnyH_done (by kernel_rfl) ?_ _
  have HB := Lib.hid hHeld.1.bel
  clear hHeld
  go_wp2
  go_ret
  exact ⟨rfl, HB.out⟩
end Go.Proofs.Ytcmcmbgdakcmmaa
