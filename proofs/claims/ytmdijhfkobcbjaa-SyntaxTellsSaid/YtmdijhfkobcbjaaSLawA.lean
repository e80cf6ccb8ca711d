/- The walk of SyntaxTells. (Written by gen_stells.py.) -/
import Derived.Test.YtmdijhfkobcbjaaSTwo
import Derived.Test.YtmdijhfkobcbjaaSRef2
import Derived.Test.YtmdijhfkobcbjaaSRef6
import Derived.Test.YtmdijhfkobcbjaaRegion
namespace Go.Proofs.Ytmdijhfkobcbjaa
set_option linter.unusedVariables false
set_option linter.unusedSimpArgs false
open Go.RowKit

structure Net3T (B : Nat) (w : World) (g h r a b : Nat) (m n : Int) (u : World) : Prop where
  x : Bk u g 24 #[.int .u32 (a : Int), .int .i64 m]
  y : Bk u h 24 #[.int .u32 (b : Int), .int .i64 n]
  z : Bk u r 24 #[.int .u32 (b : Int), .int .i64 n]
  b : Below B w u
theorem Net3T.on {B : Nat} {w u u' : World} {g h r a b : Nat} {m n : Int} (H : Net3T B w g h r a b m n u) (hb : Below u.heap.size u u') (hB : B ≤ w.heap.size) : Net3T B w g h r a b m n u' :=
  ⟨H.x.below hb H.x.lt, H.y.below hb H.y.lt, H.z.below hb H.z.lt, H.b.trans (hb.mono (Nat.le_trans hB H.b.size))⟩
theorem Net3T.draw {B : Nat} {w u : World} {g h r a b : Nat} {m n : Int} (H : Net3T B w g h r a b m n u) : Net3T B w g h r a b m n u.drew := ⟨H.x, H.y, H.z, H.b.drew⟩
theorem Net3T.c {B : Nat} {w u : World} {g h r a b : Nat} {m n : Int} (H : Net3T B w g h r a b m n u) :
    u.cell? ⟨g, 0, none⟩ = some (.int .u32 (a : Int)) ∧ u.cell? ⟨g, 1, none⟩ = some (.int .i64 m) ∧ u.cell? ⟨h, 0, none⟩ = some (.int .u32 (b : Int)) ∧ u.cell? ⟨h, 1, none⟩ = some (.int .i64 n) ∧ u.cell? ⟨r, 0, none⟩ = some (.int .u32 (b : Int)) ∧ u.cell? ⟨r, 1, none⟩ = some (.int .i64 n) :=
  ⟨by rw [H.x.cell]; rfl, by rw [H.x.cell]; rfl, by rw [H.y.cell]; rfl, by rw [H.y.cell]; rfl, by rw [H.z.cell]; rfl, by rw [H.z.cell]; rfl⟩

set_option maxRecDepth 100000 in
set_option maxHeartbeats 8000000 in
theorem walk_SyntaxTells (s : ByteArray) (a0 n0 m : Int) (W : World) (ws : s.size ≤ maxLen) (wa : (Lit.int .u32 a0).wf = true) (wn : (Lit.int .u32 n0).wf = true) (wm : (Lit.int .i64 m).wf = true) :
    Calls Try.prog 3 #[.string s, .int .u32 a0, .agg #[.int .u32 n0, .int .i64 m]] W fun e w' => e = .returned (.bool true) ∧ Below W.heap.size W w' := by
  obtain ⟨a, ha, rfl⟩ := nat_u32 a0 wa
  obtain ⟨n, hn, rfl⟩ := nat_u32 n0 wn
  clear wa wn wm
  unfold maxLen at ws
  have H0 := Lib.hid (NetAt.new W n m 24)
  have HX0 := Lib.hid (show Bk (W.alloc (.cells #[.int .u32 n, .int .i64 m] 24)) W.heap.size 24 #[.int .u32 n, .int .i64 m] from Bk.new _ _ _)
  by_cases g1 : 9000 < s.size
  · go_enter Try.func3, Try.ntmps3
    go_wp2_with fail
    refine (shead_ok _).mono ?_
    rintro e w1 ⟨rfl, hb1⟩
    have hB := (H0.out.on H0.out.b.size hb1).b
    go_wp2_with fail
    go_ret
    exact ⟨rfl, hB⟩
  have hsz : s.size ≤ 9000 := by omega
  clear g1 ws
  have A1 := Lib.hid (fun u => addr_ok s u (by omega))
  have A2 := Lib.hid (fun u => raddr_ok s u (by omega))
  have N1 := Lib.hid (fun u => net_ok s u (by omega))
  have N2 := Lib.hid (fun u => rnet_ok s u (by omega))
  have M1 := Lib.hid (fun u => name_ok s u (by omega))
  have M2 := Lib.hid (fun u => rname_ok s u (by omega))
  have D1 := Lib.hid (fun u => dots_ok a u ha)
  have D2 := Lib.hid (fun u => rdots_ok a u ha)
  have S1 := Lib.hid (fun u => slash_ok n m u hn)
  have S2 := Lib.hid (fun u => rslash_ok n m u hn)
  have I1 := Lib.hid (fun u => in_ok n m a u hn ha)
  have I2 := Lib.hid (fun u => rin_ok n m a u hn ha)
  obtain ⟨x, hx⟩ : ∃ x, (addrO s).getD 0 = x := ⟨_, rfl⟩
  obtain ⟨is, his⟩ : ∃ is, (addrO s).isSome = is := ⟨_, rfl⟩
  rw [hx, his] at A1 A2
  obtain ⟨y, hy⟩ : ∃ y, ((netO s).getD (0, 0)).1 = y := ⟨_, rfl⟩
  obtain ⟨z, hz⟩ : ∃ z, ((netO s).getD (0, 0)).2 = z := ⟨_, rfl⟩
  obtain ⟨it, hit⟩ : ∃ it, (netO s).isSome = it := ⟨_, rfl⟩
  rw [hy, hz, hit] at N1 N2
  obtain ⟨nm, hnm⟩ : ∃ nm, nameB s = nm := ⟨_, rfl⟩
  rw [hnm] at M1 M2
  obtain ⟨D, hD⟩ : ∃ D, bs (dotsB a) = D := ⟨_, rfl⟩
  rw [hD] at D1 D2
  obtain ⟨L, hL⟩ : ∃ L, bs (slashL n m) = L := ⟨_, rfl⟩
  rw [hL] at S1 S2
  obtain ⟨I, hI⟩ : ∃ I, inB n m a = I := ⟨_, rfl⟩
  rw [hI] at I1 I2
  clear hx his hy hz hit hnm hD hL hI
  go_enter Try.func3, Try.ntmps3
  go_wp2_with fail
  refine (shead_ok _).mono ?_
  rintro e w1 ⟨rfl, hb1⟩
  have H := Lib.hid (H0.out.on H0.out.b.size hb1)
  have HXB := Lib.hid (HX0.out.below hb1 HX0.out.lt)
  clear hb1 H0
  go_wp2_with fail
  refine (A1.out _).mono ?_
  rintro e w2 ⟨rfl, hb2⟩
  have H := Lib.hid (H.out.on H.out.b.size hb2)
  have HXB := Lib.hid (HXB.out.below hb2 HXB.out.lt)
  clear hb2
  go_wp2_with fail
  refine (A2.out _).mono ?_
  rintro e w3 ⟨rfl, k3, rfl⟩
  have H := Lib.hid (H.out.on H.out.b.size (below_drewN (Below.refl _ _) k3))
  have HXB := Lib.hid (HXB.out.drewN k3)
  go_wp2_with fail
  refine (N1.out _).mono ?_
  rintro e w4 ⟨rfl, hb4⟩
  have H := Lib.hid (H.out.on H.out.b.size hb4)
  have HXB := Lib.hid (HXB.out.below hb4 HXB.out.lt)
  clear hb4
  have hy5 : Bk (w4.alloc (.cells #[.int .u32 y, .int .i64 z] 24)) w4.heap.size 24 #[.int .u32 y, .int .i64 z] := Bk.new _ _ _
  have HXB := Lib.hid (HXB.out.alloc (.cells #[.int .u32 y, .int .i64 z] 24))
  have H := Lib.hid (H.out.on H.out.b.size ((Below.refl w4.heap.size w4).alloc (Nat.le_refl _) (.cells #[.int .u32 y, .int .i64 z] 24)))
  go_wp2_with fail
  refine (N2.out _).mono ?_
  rintro e w5 ⟨rfl, hb5⟩
  have H := Lib.hid (H.out.on H.out.b.size hb5)
  have HXB := Lib.hid (HXB.out.below hb5 HXB.out.lt)
  have hy6 := hy5.below hb5 hy5.lt
  clear hb5 hy5
  have hx7 : Bk (w5.alloc (.cells #[.int .u32 y, .int .i64 z] 24)) W.heap.size 24 #[.int .u32 n, .int .i64 m] := HXB.out.alloc _
  have H7 : Net3T W.heap.size W W.heap.size w4.heap.size w5.heap.size n y m z (w5.alloc (.cells #[.int .u32 y, .int .i64 z] 24)) :=
    ⟨hx7, hy6.alloc _, Bk.new _ _ _, H.out.b.alloc H.out.b.size _⟩
  have HS := Lib.hid H7.draw
  clear hx7 hy6 H7 H
  go_wp2_with fail
  try simp only [List.cons_append, List.nil_append]
  refine wp_region_held_drew (S := fun u => Net3T W.heap.size W W.heap.size w4.heap.size w5.heap.size n y m z u) (by kernel_rfl) (HS.out) (fun hHeld => ?_)
  refine take_at (some 41) (i := 0) (v := ?_) rfl rfl (by kernel_rfl) (by kernel_rfl) (by kernel_rfl) (fun _ _ _ h => h) (Or.inl ⟨by kernel_rfl, ?_⟩) hHeld ?_
  rotate_left
  · intro wz hSw; go_simp; try (with_reducible rfl)
  try simp only [Act.put, List.setIfInBounds_toArray, List.set_cons_zero, List.set_cons_succ, List.getElem_toArray, List.getElem_cons_succ, List.getElem_cons_zero]
  refine take_at (some 42) (i := 1) (v := ?_) rfl rfl (by kernel_rfl) (by kernel_rfl) (by kernel_rfl) (fun _ _ _ h => h) (Or.inl ⟨by kernel_rfl, ?_⟩) hHeld ?_
  rotate_left
  · intro wz hSw; go_simp; try (with_reducible rfl)
  try simp only [Act.put, List.setIfInBounds_toArray, List.set_cons_zero, List.set_cons_succ, List.getElem_toArray, List.getElem_cons_succ, List.getElem_cons_zero]
  refine take_at (some 43) (i := 2) (v := ?_) rfl rfl (by kernel_rfl) (by kernel_rfl) (by kernel_rfl) (fun _ _ _ h => h) (Or.inl ⟨by kernel_rfl, ?_⟩) hHeld ?_
  rotate_left
  · intro wz hSw; go_simp; try (with_reducible rfl)
  try simp only [Act.put, List.setIfInBounds_toArray, List.set_cons_zero, List.set_cons_succ, List.getElem_toArray, List.getElem_cons_succ, List.getElem_cons_zero]
  refine take_at (some 45) (i := 4) (v := ?_) rfl rfl (by kernel_rfl) (by kernel_rfl) (by kernel_rfl) (fun _ _ _ h => h) (Or.inl ⟨by kernel_rfl, ?_⟩) hHeld ?_
  rotate_left
  · intro wz hSw; go_simp; try (with_reducible rfl)
  try simp only [Act.put, List.setIfInBounds_toArray, List.set_cons_zero, List.set_cons_succ, List.getElem_toArray, List.getElem_cons_succ, List.getElem_cons_zero]
  refine wpAnyH_ready (rs := [3]) (by kernel_rfl) (by simp) (AllReadyH.cons rfl (fun K hK => ?_) AllReadyH.nil)
  rw [if_pos (by kernel_rfl)]
  go_simp
  refine (M1.out _).mono ?_
  rintro e u2 ⟨rfl, rfl⟩
  try dsimp only
  refine hK.out _ _ (hHeld) (fun hHeld => ?_)
  try simp only [Act.put, List.setIfInBounds_toArray, List.set_cons_zero, List.set_cons_succ, List.getElem_toArray, List.getElem_cons_succ, List.getElem_cons_zero]
  refine wpAnyH_ready (rs := [5]) (by kernel_rfl) (by simp) (AllReadyH.cons rfl (fun K hK => ?_) AllReadyH.nil)
  rw [if_pos (by kernel_rfl)]
  go_simp
  refine (M2.out _).mono ?_
  rintro e u2 ⟨rfl, rfl⟩
  try dsimp only
  refine hK.out _ _ (hHeld) (fun hHeld => ?_)
  try simp only [Act.put, List.setIfInBounds_toArray, List.set_cons_zero, List.set_cons_succ, List.getElem_toArray, List.getElem_cons_succ, List.getElem_cons_zero]
  refine take_at (some 47) (i := 6) (v := ?_) rfl rfl (by kernel_rfl) (by kernel_rfl) (by kernel_rfl) (fun _ _ _ h => h) (Or.inl ⟨by kernel_rfl, ?_⟩) hHeld ?_
  rotate_left
  · intro wz hSw; obtain ⟨x0, x1, y0, y1, z0, z1⟩ := hSw.c; go_simp; try (with_reducible rfl)
  try simp only [Act.put, List.setIfInBounds_toArray, List.set_cons_zero, List.set_cons_succ, List.getElem_toArray, List.getElem_cons_succ, List.getElem_cons_zero]
  refine take_at (some 48) (i := 7) (v := ?_) rfl rfl (by kernel_rfl) (by kernel_rfl) (by kernel_rfl) (fun _ _ _ h => h) (Or.inl ⟨by kernel_rfl, ?_⟩) hHeld ?_
  rotate_left
  · intro wz hSw; obtain ⟨x0, x1, y0, y1, z0, z1⟩ := hSw.c; go_simp; try (with_reducible rfl)
  try simp only [Act.put, List.setIfInBounds_toArray, List.set_cons_zero, List.set_cons_succ, List.getElem_toArray, List.getElem_cons_succ, List.getElem_cons_zero]
  refine take_at (some 49) (i := 8) (v := ?_) rfl rfl (by kernel_rfl) (by kernel_rfl) (by kernel_rfl) (fun _ _ _ h => h) (Or.inl ⟨by kernel_rfl, ?_⟩) hHeld ?_
  rotate_left
  · intro wz hSw; obtain ⟨x0, x1, y0, y1, z0, z1⟩ := hSw.c; go_simp; try (with_reducible rfl)
  try simp only [Act.put, List.setIfInBounds_toArray, List.set_cons_zero, List.set_cons_succ, List.getElem_toArray, List.getElem_cons_succ, List.getElem_cons_zero]
  refine take_at (some 50) (i := 9) (v := ?_) rfl rfl (by kernel_rfl) (by kernel_rfl) (by kernel_rfl) (fun _ _ _ h => h) (Or.inl ⟨by kernel_rfl, ?_⟩) hHeld ?_
  rotate_left
  · intro wz hSw; obtain ⟨x0, x1, y0, y1, z0, z1⟩ := hSw.c; go_simp; try (with_reducible rfl)
  try simp only [Act.put, List.setIfInBounds_toArray, List.set_cons_zero, List.set_cons_succ, List.getElem_toArray, List.getElem_cons_succ, List.getElem_cons_zero]
  refine take_at (some 51) (i := 10) (v := ?_) rfl rfl (by kernel_rfl) (by kernel_rfl) (by kernel_rfl) (fun _ _ _ h => h) (Or.inl ⟨by kernel_rfl, ?_⟩) hHeld ?_
  rotate_left
  · intro wz hSw; obtain ⟨x0, x1, y0, y1, z0, z1⟩ := hSw.c; go_simp; try (with_reducible rfl)
  try simp only [Act.put, List.setIfInBounds_toArray, List.set_cons_zero, List.set_cons_succ, List.getElem_toArray, List.getElem_cons_succ, List.getElem_cons_zero]
  refine take_at (some 52) (i := 11) (v := ?_) rfl rfl (by kernel_rfl) (by kernel_rfl) (by kernel_rfl) (fun _ _ _ h => h) (Or.inl ⟨by kernel_rfl, ?_⟩) hHeld ?_
  rotate_left
  · intro wz hSw; obtain ⟨x0, x1, y0, y1, z0, z1⟩ := hSw.c; go_simp; try (with_reducible rfl)
  try simp only [Act.put, List.setIfInBounds_toArray, List.set_cons_zero, List.set_cons_succ, List.getElem_toArray, List.getElem_cons_succ, List.getElem_cons_zero]
  refine take_at (some 53) (i := 12) (v := ?_) rfl rfl (by kernel_rfl) (by kernel_rfl) (by kernel_rfl) (fun _ _ _ h => h) (Or.inl ⟨by kernel_rfl, ?_⟩) hHeld ?_
  rotate_left
  · intro wz hSw; obtain ⟨x0, x1, y0, y1, z0, z1⟩ := hSw.c; go_simp; try (with_reducible rfl)
  try simp only [Act.put, List.setIfInBounds_toArray, List.set_cons_zero, List.set_cons_succ, List.getElem_toArray, List.getElem_cons_succ, List.getElem_cons_zero]
  refine take_at (some 54) (i := 13) (v := ?_) rfl rfl (by kernel_rfl) (by kernel_rfl) (by kernel_rfl) (fun _ _ _ h => h) (Or.inl ⟨by kernel_rfl, ?_⟩) hHeld ?_
  rotate_left
  · intro wz hSw; obtain ⟨x0, x1, y0, y1, z0, z1⟩ := hSw.c; go_simp; try (with_reducible rfl)
  try simp only [Act.put, List.setIfInBounds_toArray, List.set_cons_zero, List.set_cons_succ, List.getElem_toArray, List.getElem_cons_succ, List.getElem_cons_zero]
  refine take_at (some 55) (i := 14) (v := ?_) rfl rfl (by kernel_rfl) (by kernel_rfl) (by kernel_rfl) (fun _ _ _ h => h) (Or.inl ⟨by kernel_rfl, ?_⟩) hHeld ?_
  rotate_left
  · intro wz hSw; obtain ⟨x0, x1, y0, y1, z0, z1⟩ := hSw.c; go_simp; try (with_reducible rfl)
  try simp only [Act.put, List.setIfInBounds_toArray, List.set_cons_zero, List.set_cons_succ, List.getElem_toArray, List.getElem_cons_succ, List.getElem_cons_zero]
  refine take_at (some 56) (i := 15) (v := ?_) rfl rfl (by kernel_rfl) (by kernel_rfl) (by kernel_rfl) (fun _ _ _ h => h) (Or.inl ⟨by kernel_rfl, ?_⟩) hHeld ?_
  rotate_left
  · intro wz hSw; obtain ⟨x0, x1, y0, y1, z0, z1⟩ := hSw.c; go_simp; try (with_reducible rfl)
  try simp only [Act.put, List.setIfInBounds_toArray, List.set_cons_zero, List.set_cons_succ, List.getElem_toArray, List.getElem_cons_succ, List.getElem_cons_zero]
  refine take_at (some 57) (i := 16) (v := ?_) rfl rfl (by kernel_rfl) (by kernel_rfl) (by kernel_rfl) (fun _ _ _ h => h) (Or.inl ⟨by kernel_rfl, ?_⟩) hHeld ?_
  rotate_left
  · intro wz hSw; obtain ⟨x0, x1, y0, y1, z0, z1⟩ := hSw.c; go_simp; try (with_reducible rfl)
  try simp only [Act.put, List.setIfInBounds_toArray, List.set_cons_zero, List.set_cons_succ, List.getElem_toArray, List.getElem_cons_succ, List.getElem_cons_zero]
  refine take_at (some 58) (i := 17) (v := ?_) rfl rfl (by kernel_rfl) (by kernel_rfl) (by kernel_rfl) (fun _ _ _ h => h) (Or.inl ⟨by kernel_rfl, ?_⟩) hHeld ?_
  rotate_left
  · intro wz hSw; obtain ⟨x0, x1, y0, y1, z0, z1⟩ := hSw.c; go_simp; try (with_reducible rfl)
  try simp only [Act.put, List.setIfInBounds_toArray, List.set_cons_zero, List.set_cons_succ, List.getElem_toArray, List.getElem_cons_succ, List.getElem_cons_zero]
  refine take_at (some 59) (i := 18) (v := ?_) rfl rfl (by kernel_rfl) (by kernel_rfl) (by kernel_rfl) (fun _ _ _ h => h) (Or.inl ⟨by kernel_rfl, ?_⟩) hHeld ?_
  rotate_left
  · intro wz hSw; obtain ⟨x0, x1, y0, y1, z0, z1⟩ := hSw.c; go_simp; try (with_reducible rfl)
  try simp only [Act.put, List.setIfInBounds_toArray, List.set_cons_zero, List.set_cons_succ, List.getElem_toArray, List.getElem_cons_succ, List.getElem_cons_zero]
  refine take_at (some 60) (i := 19) (v := ?_) rfl rfl (by kernel_rfl) (by kernel_rfl) (by kernel_rfl) (fun _ _ _ h => h) (Or.inl ⟨by kernel_rfl, ?_⟩) hHeld ?_
  rotate_left
  · intro wz hSw; obtain ⟨x0, x1, y0, y1, z0, z1⟩ := hSw.c; go_simp; try (with_reducible rfl)
  try simp only [Act.put, List.setIfInBounds_toArray, List.set_cons_zero, List.set_cons_succ, List.getElem_toArray, List.getElem_cons_succ, List.getElem_cons_zero]
  refine take_at (some 61) (i := 20) (v := ?_) rfl rfl (by kernel_rfl) (by kernel_rfl) (by kernel_rfl) (fun _ _ _ h => h) (Or.inl ⟨by kernel_rfl, ?_⟩) hHeld ?_
  rotate_left
  · intro wz hSw; obtain ⟨x0, x1, y0, y1, z0, z1⟩ := hSw.c; go_simp; try (with_reducible rfl)
  try simp only [Act.put, List.setIfInBounds_toArray, List.set_cons_zero, List.set_cons_succ, List.getElem_toArray, List.getElem_cons_succ, List.getElem_cons_zero]
  refine take_at (some 62) (i := 21) (v := ?_) rfl rfl (by kernel_rfl) (by kernel_rfl) (by kernel_rfl) (fun _ _ _ h => h) (Or.inl ⟨by kernel_rfl, ?_⟩) hHeld ?_
  rotate_left
  · intro wz hSw; obtain ⟨x0, x1, y0, y1, z0, z1⟩ := hSw.c; go_simp; try (with_reducible rfl)
  try simp only [Act.put, List.setIfInBounds_toArray, List.set_cons_zero, List.set_cons_succ, List.getElem_toArray, List.getElem_cons_succ, List.getElem_cons_zero]
  refine take_at (some 63) (i := 22) (v := ?_) rfl rfl (by kernel_rfl) (by kernel_rfl) (by kernel_rfl) (fun _ _ _ h => h) (Or.inl ⟨by kernel_rfl, ?_⟩) hHeld ?_
  rotate_left
  · intro wz hSw; obtain ⟨x0, x1, y0, y1, z0, z1⟩ := hSw.c; go_simp; try (with_reducible rfl)
  try simp only [Act.put, List.setIfInBounds_toArray, List.set_cons_zero, List.set_cons_succ, List.getElem_toArray, List.getElem_cons_succ, List.getElem_cons_zero]
  refine take_at (some 64) (i := 23) (v := ?_) rfl rfl (by kernel_rfl) (by kernel_rfl) (by kernel_rfl) (fun _ _ _ h => h) (Or.inl ⟨by kernel_rfl, ?_⟩) hHeld ?_
  rotate_left
  · intro wz hSw; obtain ⟨x0, x1, y0, y1, z0, z1⟩ := hSw.c; go_simp; try (with_reducible rfl)
  try simp only [Act.put, List.setIfInBounds_toArray, List.set_cons_zero, List.set_cons_succ, List.getElem_toArray, List.getElem_cons_succ, List.getElem_cons_zero]
  refine take_at (some 65) (i := 24) (v := ?_) rfl rfl (by kernel_rfl) (by kernel_rfl) (by kernel_rfl) (fun _ _ _ h => h) (Or.inl ⟨by kernel_rfl, ?_⟩) hHeld ?_
  rotate_left
  · intro wz hSw; obtain ⟨x0, x1, y0, y1, z0, z1⟩ := hSw.c; go_simp; try (with_reducible rfl)
  try simp only [Act.put, List.setIfInBounds_toArray, List.set_cons_zero, List.set_cons_succ, List.getElem_toArray, List.getElem_cons_succ, List.getElem_cons_zero]
  refine take_at (some 66) (i := 25) (v := ?_) rfl rfl (by kernel_rfl) (by kernel_rfl) (by kernel_rfl) (fun _ _ _ h => h) (Or.inl ⟨by kernel_rfl, ?_⟩) hHeld ?_
  rotate_left
  · intro wz hSw; obtain ⟨x0, x1, y0, y1, z0, z1⟩ := hSw.c; go_simp; try (with_reducible rfl)
  try simp only [Act.put, List.setIfInBounds_toArray, List.set_cons_zero, List.set_cons_succ, List.getElem_toArray, List.getElem_cons_succ, List.getElem_cons_zero]
  refine take_at (some 67) (i := 26) (v := ?_) rfl rfl (by kernel_rfl) (by kernel_rfl) (by kernel_rfl) (fun _ _ _ h => h) (Or.inl ⟨by kernel_rfl, ?_⟩) hHeld ?_
  rotate_left
  · intro wz hSw; obtain ⟨x0, x1, y0, y1, z0, z1⟩ := hSw.c; go_simp; try (with_reducible rfl)
  try simp only [Act.put, List.setIfInBounds_toArray, List.set_cons_zero, List.set_cons_succ, List.getElem_toArray, List.getElem_cons_succ, List.getElem_cons_zero]
  refine take_at (some 68) (i := 27) (v := ?_) rfl rfl (by kernel_rfl) (by kernel_rfl) (by kernel_rfl) (fun _ _ _ h => h) (Or.inl ⟨by kernel_rfl, ?_⟩) hHeld ?_
  rotate_left
  · intro wz hSw; obtain ⟨x0, x1, y0, y1, z0, z1⟩ := hSw.c; go_simp; try (with_reducible rfl)
  try simp only [Act.put, List.setIfInBounds_toArray, List.set_cons_zero, List.set_cons_succ, List.getElem_toArray, List.getElem_cons_succ, List.getElem_cons_zero]
  refine take_at (some 69) (i := 28) (v := ?_) rfl rfl (by kernel_rfl) (by kernel_rfl) (by kernel_rfl) (fun _ _ _ h => h) (Or.inl ⟨by kernel_rfl, ?_⟩) hHeld ?_
  rotate_left
  · intro wz hSw; obtain ⟨x0, x1, y0, y1, z0, z1⟩ := hSw.c; go_simp; try (with_reducible rfl)
  try simp only [Act.put, List.setIfInBounds_toArray, List.set_cons_zero, List.set_cons_succ, List.getElem_toArray, List.getElem_cons_succ, List.getElem_cons_zero]
  refine take_at (some 70) (i := 29) (v := ?_) rfl rfl (by kernel_rfl) (by kernel_rfl) (by kernel_rfl) (fun _ _ _ h => h) (Or.inl ⟨by kernel_rfl, ?_⟩) hHeld ?_
  rotate_left
  · intro wz hSw; obtain ⟨x0, x1, y0, y1, z0, z1⟩ := hSw.c; go_simp; try (with_reducible rfl)
  try simp only [Act.put, List.setIfInBounds_toArray, List.set_cons_zero, List.set_cons_succ, List.getElem_toArray, List.getElem_cons_succ, List.getElem_cons_zero]
  refine take_at (some 72) (i := 31) (v := ?_) rfl rfl (by kernel_rfl) (by kernel_rfl) (by kernel_rfl) (fun _ _ _ h => h) (Or.inl ⟨by kernel_rfl, ?_⟩) hHeld ?_
  rotate_left
  · intro wz hSw; obtain ⟨x0, x1, y0, y1, z0, z1⟩ := hSw.c; go_simp; try (with_reducible rfl)
  try simp only [Act.put, List.setIfInBounds_toArray, List.set_cons_zero, List.set_cons_succ, List.getElem_toArray, List.getElem_cons_succ, List.getElem_cons_zero]
  refine wpAnyH_ready (rs := [30]) (by kernel_rfl) (by simp) (AllReadyH.cons rfl (fun K hK => ?_) AllReadyH.nil)
  rw [if_pos (by kernel_rfl)]
  go_simp
  refine (D1.out _).mono ?_
  rintro e u2 ⟨rfl, hbu⟩
  try dsimp only
  refine hK.out _ _ (hHeld.on hbu (Nat.le_refl _)) (fun hHeld => ?_)
  try simp only [Act.put, List.setIfInBounds_toArray, List.set_cons_zero, List.set_cons_succ, List.getElem_toArray, List.getElem_cons_succ, List.getElem_cons_zero]
  refine wpAnyH_ready (rs := [32]) (by kernel_rfl) (by simp) (AllReadyH.cons rfl (fun K hK => ?_) AllReadyH.nil)
  rw [if_pos (by kernel_rfl)]
  go_simp
  refine (D2.out _).mono ?_
  rintro e u2 ⟨rfl, hbu⟩
  try dsimp only
  refine hK.out _ _ (hHeld.on hbu (Nat.le_refl _)) (fun hHeld => ?_)
  try simp only [Act.put, List.setIfInBounds_toArray, List.set_cons_zero, List.set_cons_succ, List.getElem_toArray, List.getElem_cons_succ, List.getElem_cons_zero]
  refine take_at (some 74) (i := 33) (v := ?_) rfl rfl (by kernel_rfl) (by kernel_rfl) (by kernel_rfl) (fun _ _ _ h => h) (Or.inl ⟨by kernel_rfl, ?_⟩) hHeld ?_
  rotate_left
  · intro wz hSw; obtain ⟨x0, x1, y0, y1, z0, z1⟩ := hSw.c; go_simp; try (with_reducible rfl)
  try simp only [Act.put, List.setIfInBounds_toArray, List.set_cons_zero, List.set_cons_succ, List.getElem_toArray, List.getElem_cons_succ, List.getElem_cons_zero]
  refine take_at (some 75) (i := 34) (v := ?_) rfl rfl (by kernel_rfl) (by kernel_rfl) (by kernel_rfl) (fun _ _ _ h => h) (Or.inl ⟨by kernel_rfl, ?_⟩) hHeld ?_
  rotate_left
  · intro wz hSw; obtain ⟨x0, x1, y0, y1, z0, z1⟩ := hSw.c; go_simp; try (with_reducible rfl)
  try simp only [Act.put, List.setIfInBounds_toArray, List.set_cons_zero, List.set_cons_succ, List.getElem_toArray, List.getElem_cons_succ, List.getElem_cons_zero]
  refine take_at (some 76) (i := 35) (v := ?_) rfl rfl (by kernel_rfl) (by kernel_rfl) (by kernel_rfl) (fun _ _ _ h => h) (Or.inl ⟨by kernel_rfl, ?_⟩) hHeld ?_
  rotate_left
  · intro wz hSw; obtain ⟨x0, x1, y0, y1, z0, z1⟩ := hSw.c; go_simp; try (with_reducible rfl)
  try simp only [Act.put, List.setIfInBounds_toArray, List.set_cons_zero, List.set_cons_succ, List.getElem_toArray, List.getElem_cons_succ, List.getElem_cons_zero]
  refine take_at (some 77) (i := 36) (v := ?_) rfl rfl (by kernel_rfl) (by kernel_rfl) (by kernel_rfl) (fun _ _ _ h => h) (Or.inl ⟨by kernel_rfl, ?_⟩) hHeld ?_
  rotate_left
  · intro wz hSw; obtain ⟨x0, x1, y0, y1, z0, z1⟩ := hSw.c; go_simp; try (with_reducible rfl)
  try simp only [Act.put, List.setIfInBounds_toArray, List.set_cons_zero, List.set_cons_succ, List.getElem_toArray, List.getElem_cons_succ, List.getElem_cons_zero]
  refine take_at (some 79) (i := 38) (v := ?_) rfl rfl (by kernel_rfl) (by kernel_rfl) (by kernel_rfl) (fun _ _ _ h => h) (Or.inl ⟨by kernel_rfl, ?_⟩) hHeld ?_
  rotate_left
  · intro wz hSw; obtain ⟨x0, x1, y0, y1, z0, z1⟩ := hSw.c; go_simp; try (with_reducible rfl)
  try simp only [Act.put, List.setIfInBounds_toArray, List.set_cons_zero, List.set_cons_succ, List.getElem_toArray, List.getElem_cons_succ, List.getElem_cons_zero]
  refine wpAnyH_ready (rs := [37]) (by kernel_rfl) (by simp) (AllReadyH.cons rfl (fun K hK => ?_) AllReadyH.nil)
  rw [if_pos (by kernel_rfl)]
  go_simp
  refine (S1.out _).mono ?_
  rintro e u2 ⟨rfl, hbu⟩
  try dsimp only
  refine hK.out _ _ (hHeld.on hbu (Nat.le_refl _)) (fun hHeld => ?_)
  try simp only [Act.put, List.setIfInBounds_toArray, List.set_cons_zero, List.set_cons_succ, List.getElem_toArray, List.getElem_cons_succ, List.getElem_cons_zero]
  refine wpAnyH_ready (rs := [39]) (by kernel_rfl) (by simp) (AllReadyH.cons rfl (fun K hK => ?_) AllReadyH.nil)
  rw [if_pos (by kernel_rfl)]
  go_simp
  refine (S2.out _).mono ?_
  rintro e u2 ⟨rfl, hbu⟩
  try dsimp only
  refine hK.out _ _ (hHeld.on hbu (Nat.le_refl _)) (fun hHeld => ?_)
  try simp only [Act.put, List.setIfInBounds_toArray, List.set_cons_zero, List.set_cons_succ, List.getElem_toArray, List.getElem_cons_succ, List.getElem_cons_zero]
  refine take_at (some 81) (i := 40) (v := ?_) rfl rfl (by kernel_rfl) (by kernel_rfl) (by kernel_rfl) (fun _ _ _ h => h) (Or.inl ⟨by kernel_rfl, ?_⟩) hHeld ?_
  rotate_left
  · intro wz hSw; obtain ⟨x0, x1, y0, y1, z0, z1⟩ := hSw.c; go_simp; try (with_reducible rfl)
  try simp only [Act.put, List.setIfInBounds_toArray, List.set_cons_zero, List.set_cons_succ, List.getElem_toArray, List.getElem_cons_succ, List.getElem_cons_zero]
  refine take_at (some 82) (i := 41) (v := ?_) rfl rfl (by kernel_rfl) (by kernel_rfl) (by kernel_rfl) (fun _ _ _ h => h) (Or.inl ⟨by kernel_rfl, ?_⟩) hHeld ?_
  rotate_left
  · intro wz hSw; obtain ⟨x0, x1, y0, y1, z0, z1⟩ := hSw.c; go_simp; try (with_reducible rfl)
  try simp only [Act.put, List.setIfInBounds_toArray, List.set_cons_zero, List.set_cons_succ, List.getElem_toArray, List.getElem_cons_succ, List.getElem_cons_zero]
  refine take_at (some 83) (i := 42) (v := ?_) rfl rfl (by kernel_rfl) (by kernel_rfl) (by kernel_rfl) (fun _ _ _ h => h) (Or.inl ⟨by kernel_rfl, ?_⟩) hHeld ?_
  rotate_left
  · intro wz hSw; obtain ⟨x0, x1, y0, y1, z0, z1⟩ := hSw.c; go_simp; try (with_reducible rfl)
  try simp only [Act.put, List.setIfInBounds_toArray, List.set_cons_zero, List.set_cons_succ, List.getElem_toArray, List.getElem_cons_succ, List.getElem_cons_zero]
  refine take_at (some 84) (i := 43) (v := ?_) rfl rfl (by kernel_rfl) (by kernel_rfl) (by kernel_rfl) (fun _ _ _ h => h) (Or.inl ⟨by kernel_rfl, ?_⟩) hHeld ?_
  rotate_left
  · intro wz hSw; obtain ⟨x0, x1, y0, y1, z0, z1⟩ := hSw.c; go_simp; try (with_reducible rfl)
  try simp only [Act.put, List.setIfInBounds_toArray, List.set_cons_zero, List.set_cons_succ, List.getElem_toArray, List.getElem_cons_succ, List.getElem_cons_zero]
  refine take_at (some 85) (i := 44) (v := ?_) rfl rfl (by kernel_rfl) (by kernel_rfl) (by kernel_rfl) (fun _ _ _ h => h) (Or.inl ⟨by kernel_rfl, ?_⟩) hHeld ?_
  rotate_left
  · intro wz hSw; obtain ⟨x0, x1, y0, y1, z0, z1⟩ := hSw.c; go_simp; try (with_reducible rfl)
  try simp only [Act.put, List.setIfInBounds_toArray, List.set_cons_zero, List.set_cons_succ, List.getElem_toArray, List.getElem_cons_succ, List.getElem_cons_zero]
  refine take_at (some 87) (i := 46) (v := ?_) rfl rfl (by kernel_rfl) (by kernel_rfl) (by kernel_rfl) (fun _ _ _ h => h) (Or.inl ⟨by kernel_rfl, ?_⟩) hHeld ?_
  rotate_left
  · intro wz hSw; obtain ⟨x0, x1, y0, y1, z0, z1⟩ := hSw.c; go_simp; try (with_reducible rfl)
  try simp only [Act.put, List.setIfInBounds_toArray, List.set_cons_zero, List.set_cons_succ, List.getElem_toArray, List.getElem_cons_succ, List.getElem_cons_zero]
  refine take_at (some 88) (i := 47) (v := ?_) rfl rfl (by kernel_rfl) (by kernel_rfl) (by kernel_rfl) (fun _ _ _ h => h) (Or.inl ⟨by kernel_rfl, ?_⟩) hHeld ?_
  rotate_left
  · intro wz hSw; obtain ⟨x0, x1, y0, y1, z0, z1⟩ := hSw.c; go_simp; try (with_reducible rfl)
  try simp only [Act.put, List.setIfInBounds_toArray, List.set_cons_zero, List.set_cons_succ, List.getElem_toArray, List.getElem_cons_succ, List.getElem_cons_zero]
  refine wpAnyH_ready (rs := [45]) (by kernel_rfl) (by simp) (AllReadyH.cons rfl (fun K hK => ?_) AllReadyH.nil)
  rw [if_pos (by kernel_rfl)]
  go_simp
  refine (I1.out _).mono ?_
  rintro e u2 ⟨rfl, hbu⟩
  try dsimp only
  refine hK.out _ _ (hHeld.on hbu (Nat.le_refl _)) (fun hHeld => ?_)
  try simp only [Act.put, List.setIfInBounds_toArray, List.set_cons_zero, List.set_cons_succ, List.getElem_toArray, List.getElem_cons_succ, List.getElem_cons_zero]
  refine wpAnyH_ready (rs := [48]) (by kernel_rfl) (by simp) (AllReadyH.cons rfl (fun K hK => ?_) AllReadyH.nil)
  rw [if_pos (by kernel_rfl)]
  go_simp
  refine (I2.out _).mono ?_
  rintro e u2 ⟨rfl, hbu⟩
  try dsimp only
  refine hK.out _ _ (hHeld.on hbu (Nat.le_refl _)) (fun hHeld => ?_)
  try simp only [Act.put, List.setIfInBounds_toArray, List.set_cons_zero, List.set_cons_succ, List.getElem_toArray, List.getElem_cons_succ, List.getElem_cons_zero]
  refine take_at (some 90) (i := 49) (v := ?_) rfl rfl (by kernel_rfl) (by kernel_rfl) (by kernel_rfl) (fun _ _ _ h => h) (Or.inl ⟨by kernel_rfl, ?_⟩) hHeld ?_
  rotate_left
  · intro wz hSw; obtain ⟨x0, x1, y0, y1, z0, z1⟩ := hSw.c; go_simp; try (with_reducible rfl)
  try simp only [Act.put, List.setIfInBounds_toArray, List.set_cons_zero, List.set_cons_succ, List.getElem_toArray, List.getElem_cons_succ, List.getElem_cons_zero]
  refine take_at (some 91) (i := 50) (v := ?_) rfl rfl (by kernel_rfl) (by kernel_rfl) (by kernel_rfl) (fun _ _ _ h => h) (Or.inl ⟨by kernel_rfl, ?_⟩) hHeld ?_
  rotate_left
  · intro wz hSw; obtain ⟨x0, x1, y0, y1, z0, z1⟩ := hSw.c; go_simp; try (with_reducible rfl)
  try simp only [Act.put, List.setIfInBounds_toArray, List.set_cons_zero, List.set_cons_succ, List.getElem_toArray, List.getElem_cons_succ, List.getElem_cons_zero]
  refine take_at (some 6) (i := 51) (v := ?_) rfl rfl (by kernel_rfl) (by kernel_rfl) (by kernel_rfl) (fun _ _ _ h => h) (Or.inl ⟨by kernel_rfl, ?_⟩) hHeld ?_
  rotate_left
  · intro wz hSw; obtain ⟨x0, x1, y0, y1, z0, z1⟩ := hSw.c; go_simp; try (with_reducible rfl)
  try simp only [Act.put, List.setIfInBounds_toArray, List.set_cons_zero, List.set_cons_succ, List.getElem_toArray, List.getElem_cons_succ, List.getElem_cons_zero]
  refine wpAnyH_done (by kernel_rfl) ?_ _
  go_wp2
  go_ret
  exact ⟨rfl, hHeld.b⟩
end Go.Proofs.Ytmdijhfkobcbjaa
