/- The walk of WireTells. (Written by gen_wtells.py.) -/
import Derived.Test.YtimhjmeebahdaaaDoorWHead
import Derived.Test.YtimhjmeebahdaaaDoorOpen
import Derived.Test.YtimhjmeebahdaaaDoorBq
import Derived.Test.YtimhjmeebahdaaaDoorConvR
import Derived.Test.YtimhjmeebahdaaaDoorGetAny
import Derived.Test.YtimhjmeebahdaaaDoorWRef3
import Derived.Test.YtimhjmeebahdaaaDoorWRef4
namespace Go.Proofs.YtimhjmeebahdaaaDoor
set_option linter.unusedVariables false
set_option linter.unusedSimpArgs false
open Go.RowKit

theorem yieldsIf_eqm_true {ops : Array Oper} {S : World → Prop} {oi : Oper} {a : Act} (hw : Region.wanted oi (yielded ops a.tmps) = true) (p q : Operand) (d : TypeId) (ho : oi.op = .binOp .eql 23 p q d) (x : Mg) (hx : a.eval p = .agg x.cells) (hy : a.eval q = .agg x.cells) : YieldsIf Tryd.prog ops S oi (.bool true) a := by
  have h := yieldsIf_eqm (S := S) hw p q d ho x x hx hy
  rwa [eqM_same] at h

set_option maxRecDepth 100000 in
set_option maxHeartbeats 8000000 in
theorem walk_WireTells (x : Mg) (A : Option Addr) (l : List UInt8) (n c : Nat) (W : World) (wa : x.a.size ≤ 140737488355328) (wb : x.b.size ≤ 140737488355328) (wl : InB W A l n c) (hG : Gw W) :
    Calls Tryd.prog 3 #[.agg x.cells, .slice A n c] W fun e w' => e = .returned (.bool true) ∧ Below W.heap.size W w' := by
  have hmx := wl.max
  have hcn := wl.cap
  unfold maxLen at hmx
  have H0 := Lib.hid (Bq.of (MgAt.new (B := W.heap.size) (w := W) (x := x) hG rfl))
  have HGR := Lib.hid (fun u => great_ok x u (by omega) (by omega))
  have HPUT := Lib.hid (fun u (h : Gw u) => wput_ok x u h (by omega) (by omega))
  have HRT := Lib.hid (fun u (h : Gw u) => right_ok x u h (by omega) (by omega))
  have HRP := Lib.hid (fun u => rwput_ok x u (by omega) (by omega))
  have HRR := Lib.hid (fun u => rright_ok x u (by omega) (by omega))
  have HL := Lib.hid wl.len
  have HRB := Lib.hid wl.rb
  obtain ⟨gr, hgr⟩ : ∃ gr, decide (9000 < x.a.size + x.b.size) = gr := ⟨_, rfl⟩
  rw [hgr] at HGR
  clear wa wb hgr hG wl
  obtain ⟨P, hP⟩ : ∃ P, putW x = P := ⟨_, rfl⟩
  obtain ⟨rt, hrt⟩ : ∃ rt, rightM x = rt := ⟨_, rfl⟩
  rw [hrt] at HRT HRR
  rw [hP] at HPUT HRP
  clear hP hrt
  obtain ⟨k, a, b, n0, m⟩ := x
  go_enter Tryd.func3, Tryd.ntmps3
  go_wp2_with fail
  refine (whead_ok _ H0.out.glob).mono ?_
  rintro e w1 ⟨rfl, hb1⟩
  have H1 := Lib.hid (H0.out.on hb1)
  clear hb1 H0
  have cs := H1.out.c W.heap.size (.head _)
  go_wp2_with fail
  clear cs
  refine (HGR.out _).mono ?_
  rintro e w2 ⟨rfl, hb2⟩
  have H2 := Lib.hid (H1.out.on hb2)
  clear hb2 H1 HGR
  cases gr with
  | true =>
    have HB := H2.out.b
    go_wp2_with fail
    go_ret
    exact ⟨rfl, HB⟩
  | false =>
  by_cases hg : 9000 < n
  · have HB := H2.out.b
    have hg2 : (9000 : Int) < (n : Int) := by omega
    go_wp2_with fail
    go_ret
    exact ⟨rfl, HB⟩
  have hg2 : ¬ (9000 : Int) < (n : Int) := by omega
  have hn9 : n ≤ 9000 := by omega
  have HQ := Lib.hid (getE_any (getW l))
  obtain ⟨yk, yn, ym, ya, yb, is, his, hyes, hno, hE⟩ := HQ.out
  have hget := wget_ok A l n c w2 H2.out.glob ((HRB.out.below H2.out.b (Nat.le_refl _)).more H2.out.b.size) (by have := HL.out; omega) HL.out hcn (by omega)
  rw [hE] at hget
  have HGET := Lib.hid hget
  have HE := Lib.hid hE
  clear hget hE hyes hno his hg HQ
  go_wp2_with fail
  refine HGET.out.mono ?_
  rintro e w3 ⟨rfl, hb3⟩
  have H3 := Lib.hid (H2.out.on hb3)
  clear hb3 HGET H2 hg2
  go_upto_region 5 with (fail)
  have H4 := Lib.hid (show Bq W [(w3.heap.size, ⟨yk, ya, yb, yn, ym⟩), (W.heap.size, ⟨k, a, b, n0, m⟩)] (w3.alloc (.cells #[.int .i64 yk, .string ya, .string yb, .int .i64 yn, .int .i64 ym] 23)) from H3.out.new _)
  obtain ⟨g4, hg4⟩ : ∃ g, w3.heap.size = g := ⟨_, rfl⟩
  generalize w3.alloc (.cells #[.int .i64 yk, .string ya, .string yb, .int .i64 yn, .int .i64 ym] 23) = w4 at H4 ⊢
  rw [hg4] at H4 ⊢
  clear H3 hg4
  have hget := rwget_ok A l n c w4 ((HRB.out.below H4.out.b (Nat.le_refl _)).more H4.out.b.size) (by have := HL.out; omega) HL.out hcn (by omega)
  rw [HE.out] at hget
  have HGET := Lib.hid hget
  clear hget HE
  go_wp2_with fail
  refine HGET.out.mono ?_
  rintro e w5 ⟨rfl, hb5⟩
  have H5 := Lib.hid (H4.out.on hb5)
  clear hb5 HGET H4
  go_upto_region 6 with (fail)
  have H6 := Lib.hid (show Bq W [(w5.heap.size, ⟨yk, ya, yb, yn, ym⟩), (g4, ⟨yk, ya, yb, yn, ym⟩), (W.heap.size, ⟨k, a, b, n0, m⟩)] (w5.alloc (.cells #[.int .i64 yk, .string ya, .string yb, .int .i64 yn, .int .i64 ym] 23)) from H5.out.new _)
  obtain ⟨g6, hg6⟩ : ∃ g, w5.heap.size = g := ⟨_, rfl⟩
  generalize w5.alloc (.cells #[.int .i64 yk, .string ya, .string yb, .int .i64 yn, .int .i64 ym] 23) = w6 at H6 ⊢
  rw [hg6] at H6 ⊢
  clear H5 hg6
  try simp only [List.cons_append, List.nil_append]
  refine wp_region_held_drew (S := fun u => Bq W [(g6, ⟨yk, ya, yb, yn, ym⟩), (g4, ⟨yk, ya, yb, yn, ym⟩), (W.heap.size, ⟨k, a, b, n0, m⟩)] u) (by kernel_rfl) (H6.out.draw) (fun hHeld => ?_)
  refine take_at (some 29) (i := 0) (v := ?_) rfl rfl (by kernel_rfl) (by kernel_rfl) (by kernel_rfl) (fun _ _ _ h => h) (Or.inl ⟨by kernel_rfl, ?_⟩) hHeld ?_
  rotate_left
  · intro wz hSw; go_simp; try (with_reducible rfl)
  try simp only [Act.put, List.setIfInBounds_toArray, List.set_cons_zero, List.set_cons_succ, List.getElem_toArray, List.getElem_cons_succ, List.getElem_cons_zero]
  refine take_at (some 30) (i := 1) (v := ?_) rfl rfl (by kernel_rfl) (by kernel_rfl) (by kernel_rfl) (fun _ _ _ h => h) (Or.inl ⟨by kernel_rfl, ?_⟩) hHeld ?_
  rotate_left
  · intro wz hSw; go_simp; try (with_reducible rfl)
  try simp only [Act.put, List.setIfInBounds_toArray, List.set_cons_zero, List.set_cons_succ, List.getElem_toArray, List.getElem_cons_succ, List.getElem_cons_zero]
  refine take_at (some 31) (i := 2) rfl rfl (by kernel_rfl) (by kernel_rfl) (by kernel_rfl) (fun _ _ _ h => h) (yieldsIf_load_row (by kernel_rfl) 23 (.tmp 2) rfl W.heap.size rfl 23 _ (fun w h => h.row _ (.tail _ (.tail _ (.head _)))) Tryd.underlying23 rfl (by kernel_rfl)) hHeld ?_
  try simp only [Act.put, List.setIfInBounds_toArray, List.set_cons_zero, List.set_cons_succ, List.getElem_toArray, List.getElem_cons_succ, List.getElem_cons_zero]
  refine take_at (some 33) (i := 4) rfl rfl (by kernel_rfl) (by kernel_rfl) (by kernel_rfl) (fun _ _ _ h => h) (yieldsIf_load_row (by kernel_rfl) 23 (.tmp 2) rfl W.heap.size rfl 23 _ (fun w h => h.row _ (.tail _ (.tail _ (.head _)))) Tryd.underlying23 rfl (by kernel_rfl)) hHeld ?_
  try simp only [Act.put, List.setIfInBounds_toArray, List.set_cons_zero, List.set_cons_succ, List.getElem_toArray, List.getElem_cons_succ, List.getElem_cons_zero]
  refine wpAnyH_ready (rs := [3]) (by kernel_rfl) (by simp) (AllReadyH.cons rfl (fun K hK => ?_) AllReadyH.nil)
  rw [if_pos (by kernel_rfl)]
  go_simp
  refine (HRT.out _ hHeld.glob).mono ?_
  rintro e u3 ⟨rfl, hbu⟩
  try dsimp only
  refine hK.out _ _ (hHeld.on hbu) (fun hHeld => ?_)
  try simp only [Act.put, List.setIfInBounds_toArray, List.set_cons_zero, List.set_cons_succ, List.getElem_toArray, List.getElem_cons_succ, List.getElem_cons_zero]
  clear hbu
  refine wpAnyH_ready (rs := [5]) (by kernel_rfl) (by simp) (AllReadyH.cons rfl (fun K hK => ?_) AllReadyH.nil)
  rw [if_pos (by kernel_rfl)]
  go_simp
  refine (HRR.out _).mono ?_
  rintro e u5 ⟨rfl, hbu⟩
  try dsimp only
  refine hK.out _ _ (hHeld.on hbu) (fun hHeld => ?_)
  try simp only [Act.put, List.setIfInBounds_toArray, List.set_cons_zero, List.set_cons_succ, List.getElem_toArray, List.getElem_cons_succ, List.getElem_cons_zero]
  clear hbu
  refine take_at (some 35) (i := 6) (v := ?_) rfl rfl (by kernel_rfl) (by kernel_rfl) (by kernel_rfl) (fun _ _ _ h => h) (Or.inl ⟨by kernel_rfl, ?_⟩) hHeld ?_
  rotate_left
  · intro wz hSw; go_simp; try (with_reducible rfl)
  try simp only [Act.put, List.setIfInBounds_toArray, List.set_cons_zero, List.set_cons_succ, List.getElem_toArray, List.getElem_cons_succ, List.getElem_cons_zero]
  refine take_at (some 36) (i := 7) (v := ?_) rfl rfl (by kernel_rfl) (by kernel_rfl) (by kernel_rfl) (fun _ _ _ h => h) (Or.inl ⟨by kernel_rfl, ?_⟩) hHeld ?_
  rotate_left
  · intro wz hSw; go_simp; try (with_reducible rfl)
  try simp only [Act.put, List.setIfInBounds_toArray, List.set_cons_zero, List.set_cons_succ, List.getElem_toArray, List.getElem_cons_succ, List.getElem_cons_zero]
  refine take_at (some 37) (i := 8) (v := ?_) rfl rfl (by kernel_rfl) (by kernel_rfl) (by kernel_rfl) (fun _ _ _ h => h) (Or.inl ⟨by kernel_rfl, ?_⟩) hHeld ?_
  rotate_left
  · intro wz hSw; go_simp; try (with_reducible rfl)
  try simp only [Act.put, List.setIfInBounds_toArray, List.set_cons_zero, List.set_cons_succ, List.getElem_toArray, List.getElem_cons_succ, List.getElem_cons_zero]
  refine take_at (some 38) (i := 9) rfl rfl (by kernel_rfl) (by kernel_rfl) (by kernel_rfl) (fun _ _ _ h => h) (yieldsIf_load_row (by kernel_rfl) 23 (.tmp 2) rfl W.heap.size rfl 23 _ (fun w h => h.row _ (.tail _ (.tail _ (.head _)))) Tryd.underlying23 rfl (by kernel_rfl)) hHeld ?_
  try simp only [Act.put, List.setIfInBounds_toArray, List.set_cons_zero, List.set_cons_succ, List.getElem_toArray, List.getElem_cons_succ, List.getElem_cons_zero]
  refine take_at (some 41) (i := 12) rfl rfl (by kernel_rfl) (by kernel_rfl) (by kernel_rfl) (fun _ _ _ h => h) (yieldsIf_load_row (by kernel_rfl) 23 (.tmp 2) rfl W.heap.size rfl 23 _ (fun w h => h.row _ (.tail _ (.tail _ (.head _)))) Tryd.underlying23 rfl (by kernel_rfl)) hHeld ?_
  try simp only [Act.put, List.setIfInBounds_toArray, List.set_cons_zero, List.set_cons_succ, List.getElem_toArray, List.getElem_cons_succ, List.getElem_cons_zero]
  refine wpAnyH_ready (rs := [10]) (by kernel_rfl) (by simp) (AllReadyH.cons rfl (fun K hK => ?_) AllReadyH.nil)
  rw [if_pos (by kernel_rfl)]
  go_simp
  refine (HPUT.out _ hHeld.glob).mono ?_
  rintro e u10 ⟨A3, c3, rfl, ho3, hbu⟩
  try dsimp only
  refine hK.out _ _ (hHeld.on hbu) (fun hHeld => ?_)
  try simp only [Act.put, List.setIfInBounds_toArray, List.set_cons_zero, List.set_cons_succ, List.getElem_toArray, List.getElem_cons_succ, List.getElem_cons_zero]
  have hrb3 := ho3.rb
  refine wpAnyH_mono (S' := fun u => Bq W [(g6, ⟨yk, ya, yb, yn, ym⟩), (g4, ⟨yk, ya, yb, yn, ym⟩), (W.heap.size, ⟨k, a, b, n0, m⟩)] u ∧ Rb u u10.heap.size A3 P ∧ u10.heap.size ≤ u.heap.size) (fun _ h => h.1) _ _ _ _ ?_
  have hHeld := And.intro hHeld (And.intro hrb3 (Nat.le_refl u10.heap.size))
  clear ho3 hbu
  refine take_at (some 40) (i := 11) rfl rfl (by kernel_rfl) (by kernel_rfl) (by kernel_rfl) (fun _ _ _ h => h) (yieldsIf_conv (by kernel_rfl) 24 5 9 (.tmp 39) rfl A3 P.length c3 P rfl rfl (fun w h => h.2.1) Tryd.underlying24 Tryd.underlying5 Tryd.underlying9) hHeld ?_
  try simp only [Act.put, List.setIfInBounds_toArray, List.set_cons_zero, List.set_cons_succ, List.getElem_toArray, List.getElem_cons_succ, List.getElem_cons_zero]
  refine wpAnyH_ready (rs := [13]) (by kernel_rfl) (by simp) (AllReadyH.cons rfl (fun K hK => ?_) AllReadyH.nil)
  rw [if_pos (by kernel_rfl)]
  go_simp
  refine (HRP.out _).mono ?_
  rintro e u13 ⟨A4, c4, rfl, ho4, hbu⟩
  try dsimp only
  refine hK.out _ _ (⟨hHeld.1.on hbu, hHeld.2.1.below hbu hHeld.2.2, Nat.le_trans hHeld.2.2 hbu.size⟩) (fun hHeld => ?_)
  try simp only [Act.put, List.setIfInBounds_toArray, List.set_cons_zero, List.set_cons_succ, List.getElem_toArray, List.getElem_cons_succ, List.getElem_cons_zero]
  have hrb4 := ho4.rb
  refine wpAnyH_mono (S' := fun u => Bq W [(g6, ⟨yk, ya, yb, yn, ym⟩), (g4, ⟨yk, ya, yb, yn, ym⟩), (W.heap.size, ⟨k, a, b, n0, m⟩)] u ∧ Rb u u13.heap.size A4 P ∧ Rb u u10.heap.size A3 P ∧ u10.heap.size ≤ u.heap.size) (fun _ h => ⟨h.1, h.2.2⟩) _ _ _ _ ?_
  have hHeld := And.intro hHeld.1 (And.intro hrb4 hHeld.2)
  clear ho4 hbu
  refine take_at (some 43) (i := 14) rfl rfl (by kernel_rfl) (by kernel_rfl) (by kernel_rfl) (fun _ _ _ h => h) (yieldsIf_conv (by kernel_rfl) 24 5 9 (.tmp 42) rfl A4 P.length c4 P rfl rfl (fun w h => h.2.1) Tryd.underlying24 Tryd.underlying5 Tryd.underlying9) hHeld ?_
  try simp only [Act.put, List.setIfInBounds_toArray, List.set_cons_zero, List.set_cons_succ, List.getElem_toArray, List.getElem_cons_succ, List.getElem_cons_zero]
  refine take_at (some 44) (i := 15) (v := ?_) rfl rfl (by kernel_rfl) (by kernel_rfl) (by kernel_rfl) (fun _ _ _ h => h) (Or.inl ⟨by kernel_rfl, ?_⟩) hHeld ?_
  rotate_left
  · intro wz hSw; go_simp; try (with_reducible rfl)
  try simp only [Act.put, List.setIfInBounds_toArray, List.set_cons_zero, List.set_cons_succ, List.getElem_toArray, List.getElem_cons_succ, List.getElem_cons_zero]
  refine take_at (some 45) (i := 16) (v := ?_) rfl rfl (by kernel_rfl) (by kernel_rfl) (by kernel_rfl) (fun _ _ _ h => h) (Or.inl ⟨by kernel_rfl, ?_⟩) hHeld ?_
  rotate_left
  · intro wz hSw; go_simp; try (with_reducible rfl)
  try simp only [Act.put, List.setIfInBounds_toArray, List.set_cons_zero, List.set_cons_succ, List.getElem_toArray, List.getElem_cons_succ, List.getElem_cons_zero]
  refine take_at (some 46) (i := 17) (v := ?_) rfl rfl (by kernel_rfl) (by kernel_rfl) (by kernel_rfl) (fun _ _ _ h => h) (Or.inl ⟨by kernel_rfl, ?_⟩) hHeld ?_
  rotate_left
  · intro wz hSw; go_simp; try (with_reducible rfl)
  try simp only [Act.put, List.setIfInBounds_toArray, List.set_cons_zero, List.set_cons_succ, List.getElem_toArray, List.getElem_cons_succ, List.getElem_cons_zero]
  refine take_at (some 47) (i := 18) rfl rfl (by kernel_rfl) (by kernel_rfl) (by kernel_rfl) (fun _ _ _ h => h) (yieldsIf_load_row (by kernel_rfl) 23 (.tmp 6) rfl g4 rfl 23 _ (fun w h => h.1.row _ (.tail _ (.head _))) Tryd.underlying23 rfl (by kernel_rfl)) hHeld ?_
  try simp only [Act.put, List.setIfInBounds_toArray, List.set_cons_zero, List.set_cons_succ, List.getElem_toArray, List.getElem_cons_succ, List.getElem_cons_zero]
  refine take_at (some 48) (i := 19) rfl rfl (by kernel_rfl) (by kernel_rfl) (by kernel_rfl) (fun _ _ _ h => h) (yieldsIf_load_row (by kernel_rfl) 23 (.tmp 8) rfl g6 rfl 23 _ (fun w h => h.1.row _ (.head _)) Tryd.underlying23 rfl (by kernel_rfl)) hHeld ?_
  try simp only [Act.put, List.setIfInBounds_toArray, List.set_cons_zero, List.set_cons_succ, List.getElem_toArray, List.getElem_cons_succ, List.getElem_cons_zero]
  refine take_at (some 49) (i := 20) rfl rfl (by kernel_rfl) (by kernel_rfl) (by kernel_rfl) (fun _ _ _ h => h) (yieldsIf_eqm_true (by kernel_rfl) (.tmp 47) (.tmp 48) _ rfl ⟨yk, ya, yb, yn, ym⟩ rfl rfl) hHeld ?_
  try simp only [Act.put, List.setIfInBounds_toArray, List.set_cons_zero, List.set_cons_succ, List.getElem_toArray, List.getElem_cons_succ, List.getElem_cons_zero]
  refine take_at (some 50) (i := 21) (v := ?_) rfl rfl (by kernel_rfl) (by kernel_rfl) (by kernel_rfl) (fun _ _ _ h => h) (Or.inl ⟨by kernel_rfl, ?_⟩) hHeld ?_
  rotate_left
  · intro wz hSw; go_simp; try (with_reducible rfl)
  try simp only [Act.put, List.setIfInBounds_toArray, List.set_cons_zero, List.set_cons_succ, List.getElem_toArray, List.getElem_cons_succ, List.getElem_cons_zero]
  refine take_at (some 51) (i := 22) (v := ?_) rfl rfl (by kernel_rfl) (by kernel_rfl) (by kernel_rfl) (fun _ _ _ h => h) (Or.inl ⟨by kernel_rfl, ?_⟩) hHeld ?_
  rotate_left
  · intro wz hSw; go_simp; try (with_reducible rfl)
  try simp only [Act.put, List.setIfInBounds_toArray, List.set_cons_zero, List.set_cons_succ, List.getElem_toArray, List.getElem_cons_succ, List.getElem_cons_zero]
  refine take_at (some 52) (i := 23) (v := ?_) rfl rfl (by kernel_rfl) (by kernel_rfl) (by kernel_rfl) (fun _ _ _ h => h) (Or.inl ⟨by kernel_rfl, ?_⟩) hHeld ?_
  rotate_left
  · intro wz hSw; go_simp; try (with_reducible rfl)
  try simp only [Act.put, List.setIfInBounds_toArray, List.set_cons_zero, List.set_cons_succ, List.getElem_toArray, List.getElem_cons_succ, List.getElem_cons_zero]
  refine take_at (some 53) (i := 24) (v := ?_) rfl rfl (by kernel_rfl) (by kernel_rfl) (by kernel_rfl) (fun _ _ _ h => h) (Or.inl ⟨by kernel_rfl, ?_⟩) hHeld ?_
  rotate_left
  · intro wz hSw; go_simp; try (with_reducible rfl)
  try simp only [Act.put, List.setIfInBounds_toArray, List.set_cons_zero, List.set_cons_succ, List.getElem_toArray, List.getElem_cons_succ, List.getElem_cons_zero]
  refine take_at (some 54) (i := 25) (v := ?_) rfl rfl (by kernel_rfl) (by kernel_rfl) (by kernel_rfl) (fun _ _ _ h => h) (Or.inl ⟨by kernel_rfl, ?_⟩) hHeld ?_
  rotate_left
  · intro wz hSw; go_simp; try (with_reducible rfl)
  try simp only [Act.put, List.setIfInBounds_toArray, List.set_cons_zero, List.set_cons_succ, List.getElem_toArray, List.getElem_cons_succ, List.getElem_cons_zero]
  refine take_at (some 55) (i := 26) (v := ?_) rfl rfl (by kernel_rfl) (by kernel_rfl) (by kernel_rfl) (fun _ _ _ h => h) (Or.inl ⟨by kernel_rfl, ?_⟩) hHeld ?_
  rotate_left
  · intro wz hSw; go_simp; try (with_reducible rfl)
  try simp only [Act.put, List.setIfInBounds_toArray, List.set_cons_zero, List.set_cons_succ, List.getElem_toArray, List.getElem_cons_succ, List.getElem_cons_zero]
  refine take_at (some 4) (i := 27) (v := ?_) rfl rfl (by kernel_rfl) (by kernel_rfl) (by kernel_rfl) (fun _ _ _ h => h) (Or.inl ⟨by kernel_rfl, ?_⟩) hHeld ?_
  rotate_left
  · intro wz hSw; go_simp; try (with_reducible rfl)
  try simp only [Act.put, List.setIfInBounds_toArray, List.set_cons_zero, List.set_cons_succ, List.getElem_toArray, List.getElem_cons_succ, List.getElem_cons_zero]
  refine wpAnyH_done (by kernel_rfl) ?_ _
  have HB := Lib.hid hHeld.1.b
  clear hK hHeld
  go_wp2
  go_ret
  exact ⟨rfl, HB.out⟩
end Go.Proofs.YtimhjmeebahdaaaDoor
