/- The walk of SyntaxHalves. (Written by gen_slaws.py.) -/
import Derived.Test.YtmdijhfkobcbjaaSTwo
import Derived.Test.YtmdijhfkobcbjaaSMathB
import Derived.Test.YtmdijhfkobcbjaaRegion
import Derived.Deep.Cut
namespace Go.Proofs.Ytmdijhfkobcbjaa
set_option linter.unusedVariables false
set_option linter.unusedSimpArgs false
open Go.RowKit

abbrev netI (a : Nat) (bits : Int) : Array Value := #[.int .u32 (a : Int), .int .i64 bits]
structure Net3 (B : Nat) (w : World) (g h r a b c : Nat) (m n : Int) (u : World) : Prop where
  x : Bk u g 24 (netI a m)
  y : Bk u h 24 (netI b n)
  z : Bk u r 24 (netI c n)
  b : Below B w u
theorem Net3.on {B : Nat} {w u u' : World} {g h r a b c : Nat} {m n : Int} (H : Net3 B w g h r a b c m n u) (hB : B ≤ w.heap.size) (hb : Below u.heap.size u u') : Net3 B w g h r a b c m n u' :=
  ⟨H.x.below hb H.x.lt, H.y.below hb H.y.lt, H.z.below hb H.z.lt, H.b.trans (hb.mono (Nat.le_trans hB H.b.size))⟩
theorem Net3.c {B : Nat} {w u : World} {g h r a b c : Nat} {m n : Int} (H : Net3 B w g h r a b c m n u) :
    u.cell? ⟨g, 0, none⟩ = some (.int .u32 (a : Int)) ∧ u.cell? ⟨g, 1, none⟩ = some (.int .i64 m) ∧ u.cell? ⟨h, 0, none⟩ = some (.int .u32 (b : Int)) ∧ u.cell? ⟨h, 1, none⟩ = some (.int .i64 n) ∧ u.cell? ⟨r, 0, none⟩ = some (.int .u32 (c : Int)) ∧ u.cell? ⟨r, 1, none⟩ = some (.int .i64 n) :=
  ⟨by rw [H.x.cell]; rfl, by rw [H.x.cell]; rfl, by rw [H.y.cell]; rfl, by rw [H.y.cell]; rfl, by rw [H.z.cell]; rfl, by rw [H.z.cell]; rfl⟩

set_option maxRecDepth 100000 in
set_option maxHeartbeats 8000000 in
theorem walk_SyntaxHalves (a0 i0 b0 : Int) (W : World) (wa : (Lit.int .u32 a0).wf = true) (wi : (Lit.int .u8 i0).wf = true) (wb : (Lit.int .u32 b0).wf = true) :
    Calls Try.prog 8 #[.int .u32 a0, .int .u8 i0, .int .u32 b0] W fun e w' => e = .returned (.bool true) ∧ Below W.heap.size W w' := by
  obtain ⟨a, ha, rfl⟩ := nat_u32 a0 wa
  obtain ⟨b, hb, rfl⟩ := nat_u32 b0 wb
  obtain ⟨i, hi, rfl⟩ := nat_u8 i0 wi
  clear wa wi wb
  obtain ⟨n, hn⟩ : ∃ n, n = i % 32 := ⟨_, rfl⟩
  have hn2 : n < 32 := by omega
  have hm : (i : Int) % 32 = (n : Int) := by rw [hn]; exact (modC i 32).symm
  clear hn
  obtain ⟨X, hX⟩ : ∃ X, X = firstN n a := ⟨_, rfl⟩
  obtain ⟨T, hT⟩ : ∃ T, T = firstN n a ||| 2 ^ (31 - n) := ⟨_, rfl⟩
  have hXl : X < 4294967296 := by rw [hX]; exact first_lt n a ha
  have hTl : T < 4294967296 := by rw [hT]; exact half_lt n a hn2 ha
  have HN1 := Lib.hid (fun u => lnet_ok a n u ha (by omega))
  rw [← hX] at HN1
  obtain ⟨one, h1⟩ : ∃ v, decide (b / 2 ^ (31 - n) = a / 2 ^ (32 - n) * 2) = v := ⟨_, rfl⟩
  obtain ⟨two, h2⟩ : ∃ v, decide (b / 2 ^ (31 - n) = a / 2 ^ (32 - n) * 2 + 1) = v := ⟨_, rfl⟩
  have hno : one = true → two = true → False := by
    intro e1 e2
    rw [← h1, decide_eq_true_eq] at e1
    rw [← h2, decide_eq_true_eq] at e2
    omega
  have HL := Lib.hid (fun u => in_ok X ((n : Int) + 1) b u hXl hb)
  rw [show inB X ((n : Int) + 1) b = one by rw [hX, ← h1]; exact half_low n a b hn2] at HL
  have HH := Lib.hid (fun u => in_ok T ((n : Int) + 1) b u hTl hb)
  rw [show inB T ((n : Int) + 1) b = two by rw [hT, ← h2]; exact half_high n a b hn2] at HH
  have HXB := Lib.hid (fun u => in_ok X n b u hXl hb)
  rw [show inB X n b = (one || two) by rw [hX, ← h1, ← h2]; exact half_whole n a b hn2] at HXB
  have HX1 := Lib.hid (fun u => in_ok X n X u hXl hXl)
  rw [show inB X n X = true by rw [hX]; exact half_one n a hn2] at HX1
  have HX2 := Lib.hid (fun u => in_ok X n T u hXl hTl)
  rw [show inB X n T = true by rw [hX, hT]; exact half_two n a hn2] at HX2
  have hv : bits .or .u32 (X : Int) (IntKind.u32.wrap (2 ^ (31 - n))) = (T : Int) := by
    rw [IntKind.wrap_u32']
    have e : (2 : Int) ^ (31 - n) % 4294967296 = ((2 ^ (31 - n) : Nat) : Int) := by
      have h1 := mask_lt n hn2
      have h2 : (2 : Int) ^ (31 - n) = ((2 ^ (31 - n) : Nat) : Int) := by simp
      rw [h2]
      show ((2 ^ (31 - n) : Nat) : Int) % ((4294967296 : Nat) : Int) = _
      rw [← Int.natCast_emod, Nat.mod_eq_of_lt h1]
    rw [e, w_or]
    unfold wor
    rw [hX, ← hT, Nat.mod_eq_of_lt hTl]
  have hw1 : IntKind.i64.wrap (31 - (n : Int)) = 31 - (n : Int) := IntWalk.i64_in _ (by omega)
  have hw2 : IntKind.i64.wrap ((n : Int) + 1) = (n : Int) + 1 := IntWalk.i64_in _ (by omega)
  have hk0 : (0 : Int) ≤ 31 - (n : Int) := by omega
  have hkn2 : ((31 : Int) - (n : Int)).toNat = 31 - n := by omega
  have hi1 : (0 : Int) ≤ (i : Int) := by omega
  have hn0 : (0 : Int) ≤ (n : Int) := by omega
  clear hX hT h1 h2
  go_enter Try.func8, Try.ntmps8
  go_wp2_with fail
  refine (shead_ok _).mono ?_
  rintro e w1 ⟨rfl, hb1⟩
  go_wp2_with fail
  refine (HN1.out _).mono ?_
  rintro e w2 ⟨rfl, hb2⟩
  have HB2 := Lib.hid (hb1.trans (hb2.mono hb1.size))
  clear hb1 hb2
  go_upto_region 5 with fail
  obtain ⟨w3, hw3⟩ : ∃ w3, w2.alloc (.cells (netI X n) 24) = w3 := ⟨_, rfl⟩
  have hz3 : w3.heap.size = w2.heap.size + 1 := by rw [← hw3]; simp
  have hx3 : Bk w3 w2.heap.size 24 (netI X n) := by rw [← hw3]; exact Bk.new _ _ _
  have hB3 : Below W.heap.size W w3 := by rw [← hw3]; exact HB2.out.alloc HB2.out.size _
  rw [hw3]
  clear hw3
  try simp only [← hz3]
  obtain ⟨w4, hw4⟩ : ∃ w4, w3.alloc (.cells (netI X ((n : Int) + 1)) 24) = w4 := ⟨_, rfl⟩
  have hz4 : w4.heap.size = w3.heap.size + 1 := by rw [← hw4]; simp
  have hx4 : Bk w4 w2.heap.size 24 (netI X n) := by rw [← hw4]; exact hx3.alloc _
  have hy4 : Bk w4 w3.heap.size 24 (netI X ((n : Int) + 1)) := by rw [← hw4]; exact Bk.new _ _ _
  have hB4 : Below W.heap.size W w4 := by rw [← hw4]; exact hB3.alloc hB3.size _
  rw [hw4]
  clear hw4 hx3 hB3
  have c0 : w4.cell? ⟨w2.heap.size, 0, none⟩ = some (.int .u32 (X : Int)) := by rw [hx4.cell]; rfl
  have HX4 := Lib.hid hx4
  have HY4 := Lib.hid hy4
  have HB4 := Lib.hid hB4
  have HZ := Lib.hid (And.intro hz3 hz4)
  clear hx4 hy4 hB4 hz3 hz4
  have HS0 := Lib.hid (show Bk w4.drew w2.heap.size 24 (netI X n) ∧ Bk w4.drew w3.heap.size 24 (netI X ((n : Int) + 1)) ∧ Below W.heap.size W w4.drew from ⟨HX4.out, HY4.out, HB4.out.drew⟩)
  try simp only [List.cons_append, List.nil_append]
  refine wp_region_held_drew (S := fun u => Bk u w2.heap.size 24 (netI X n) ∧ Bk u w3.heap.size 24 (netI X ((n : Int) + 1)) ∧ Below W.heap.size W u) (by kernel_rfl) (HS0.out) (fun hHeld => ?_)
  refine take_at (some 26) (i := 0) (v := ?_) rfl rfl (by kernel_rfl) (by kernel_rfl) (by kernel_rfl) (fun _ _ _ h => h) (Or.inl ⟨by kernel_rfl, ?_⟩) hHeld ?_
  rotate_left
  · intro wz hSw; have q0 : wz.cell? ⟨w2.heap.size, 0, none⟩ = some (.int .u32 (X : Int)) := (by rw [hSw.1.cell]; rfl); go_simp; try (with_reducible rfl)
  try simp only [Act.put, List.setIfInBounds_toArray, List.set_cons_zero, List.set_cons_succ, List.getElem_toArray, List.getElem_cons_succ, List.getElem_cons_zero]
  refine take_at (some 27) (i := 1) (v := ?_) rfl rfl (by kernel_rfl) (by kernel_rfl) (by kernel_rfl) (fun _ _ _ h => h) (Or.inl ⟨by kernel_rfl, ?_⟩) hHeld ?_
  rotate_left
  · intro wz hSw; have q0 : wz.cell? ⟨w2.heap.size, 0, none⟩ = some (.int .u32 (X : Int)) := (by rw [hSw.1.cell]; rfl); go_simp; try (with_reducible rfl)
  try simp only [Act.put, List.setIfInBounds_toArray, List.set_cons_zero, List.set_cons_succ, List.getElem_toArray, List.getElem_cons_succ, List.getElem_cons_zero]
  refine take_at (some 28) (i := 2) (v := ?_) rfl rfl (by kernel_rfl) (by kernel_rfl) (by kernel_rfl) (fun _ _ _ h => h) (Or.inl ⟨by kernel_rfl, ?_⟩) hHeld ?_
  rotate_left
  · intro wz hSw; have q0 : wz.cell? ⟨w2.heap.size, 0, none⟩ = some (.int .u32 (X : Int)) := (by rw [hSw.1.cell]; rfl); go_simp; try (with_reducible rfl)
  try simp only [Act.put, List.setIfInBounds_toArray, List.set_cons_zero, List.set_cons_succ, List.getElem_toArray, List.getElem_cons_succ, List.getElem_cons_zero]
  refine take_at (some 29) (i := 3) (v := ?_) rfl rfl (by kernel_rfl) (by kernel_rfl) (by kernel_rfl) (fun _ _ _ h => h) (Or.inl ⟨by kernel_rfl, ?_⟩) hHeld ?_
  rotate_left
  · intro wz hSw; have q0 : wz.cell? ⟨w2.heap.size, 0, none⟩ = some (.int .u32 (X : Int)) := (by rw [hSw.1.cell]; rfl); go_simp; try (with_reducible rfl)
  try simp only [Act.put, List.setIfInBounds_toArray, List.set_cons_zero, List.set_cons_succ, List.getElem_toArray, List.getElem_cons_succ, List.getElem_cons_zero]
  refine take_at (some 30) (i := 4) (v := ?_) rfl rfl (by kernel_rfl) (by kernel_rfl) (by kernel_rfl) (fun _ _ _ h => h) (Or.inl ⟨by kernel_rfl, ?_⟩) hHeld ?_
  rotate_left
  · intro wz hSw; have q0 : wz.cell? ⟨w2.heap.size, 0, none⟩ = some (.int .u32 (X : Int)) := (by rw [hSw.1.cell]; rfl); go_simp; try (with_reducible rfl)
  try simp only [Act.put, List.setIfInBounds_toArray, List.set_cons_zero, List.set_cons_succ, List.getElem_toArray, List.getElem_cons_succ, List.getElem_cons_zero]
  refine take_at (some 31) (i := 5) (v := ?_) rfl rfl (by kernel_rfl) (by kernel_rfl) (by kernel_rfl) (fun _ _ _ h => h) (Or.inl ⟨by kernel_rfl, ?_⟩) hHeld ?_
  rotate_left
  · intro wz hSw; have q0 : wz.cell? ⟨w2.heap.size, 0, none⟩ = some (.int .u32 (X : Int)) := (by rw [hSw.1.cell]; rfl); go_simp; try (with_reducible rfl)
  try simp only [Act.put, List.setIfInBounds_toArray, List.set_cons_zero, List.set_cons_succ, List.getElem_toArray, List.getElem_cons_succ, List.getElem_cons_zero]
  refine take_at (some 32) (i := 6) (v := ?_) rfl rfl (by kernel_rfl) (by kernel_rfl) (by kernel_rfl) (fun _ _ _ h => h) (Or.inl ⟨by kernel_rfl, ?_⟩) hHeld ?_
  rotate_left
  · intro wz hSw; have q0 : wz.cell? ⟨w2.heap.size, 0, none⟩ = some (.int .u32 (X : Int)) := (by rw [hSw.1.cell]; rfl); go_simp; try (with_reducible rfl)
  try simp only [Act.put, List.setIfInBounds_toArray, List.set_cons_zero, List.set_cons_succ, List.getElem_toArray, List.getElem_cons_succ, List.getElem_cons_zero]
  refine take_at (some 33) (i := 7) (v := ?_) rfl rfl (by kernel_rfl) (by kernel_rfl) (by kernel_rfl) (fun _ _ _ h => h) (Or.inl ⟨by kernel_rfl, ?_⟩) hHeld ?_
  rotate_left
  · intro wz hSw; have q0 : wz.cell? ⟨w2.heap.size, 0, none⟩ = some (.int .u32 (X : Int)) := (by rw [hSw.1.cell]; rfl); go_simp; try (with_reducible rfl)
  try simp only [Act.put, List.setIfInBounds_toArray, List.set_cons_zero, List.set_cons_succ, List.getElem_toArray, List.getElem_cons_succ, List.getElem_cons_zero]
  refine take_at (some 34) (i := 8) (v := ?_) rfl rfl (by kernel_rfl) (by kernel_rfl) (by kernel_rfl) (fun _ _ _ h => h) (Or.inl ⟨by kernel_rfl, ?_⟩) hHeld ?_
  rotate_left
  · intro wz hSw; have q0 : wz.cell? ⟨w2.heap.size, 0, none⟩ = some (.int .u32 (X : Int)) := (by rw [hSw.1.cell]; rfl); go_simp; try (with_reducible rfl)
  try simp only [Act.put, List.setIfInBounds_toArray, List.set_cons_zero, List.set_cons_succ, List.getElem_toArray, List.getElem_cons_succ, List.getElem_cons_zero]
  refine wpAnyH_ready (rs := [9]) (by kernel_rfl) (by simp) (AllReadyH.cons rfl (fun K hK => ?_) AllReadyH.nil)
  rw [if_pos (by kernel_rfl)]
  go_simp
  have hx5 : Bk (w4.alloc (.cells #[.int .u32 0, .int .i64 0] 24)).drew w2.heap.size 24 (netI X n) := HX4.out.alloc _
  have hy5 : Bk (w4.alloc (.cells #[.int .u32 0, .int .i64 0] 24)).drew w3.heap.size 24 (netI X ((n : Int) + 1)) := HY4.out.alloc _
  have hz5 : Bk (w4.alloc (.cells #[.int .u32 0, .int .i64 0] 24)).drew w4.heap.size 24 #[.int .u32 0, .int .i64 0] := Bk.new _ _ _
  have hB5 : Below W.heap.size W (w4.alloc (.cells #[.int .u32 0, .int .i64 0] 24)).drew := (HB4.out.alloc HB4.out.size _).drew
  obtain ⟨w5, hw5⟩ : ∃ w5, (w4.alloc (.cells #[.int .u32 0, .int .i64 0] 24)).drew = w5 := ⟨_, rfl⟩
  rw [hw5] at hx5 hy5 hz5 hB5 ⊢
  clear hw5
  refine hK.out _ _ ⟨hx5, hy5, hB5⟩ (fun hHeld => ?_)
  clear hK
  try simp only [Act.put, List.setIfInBounds_toArray, List.set_cons_zero, List.set_cons_succ, List.getElem_toArray, List.getElem_cons_succ, List.getElem_cons_zero]
  refine wpAnyH_ready (rs := [10]) (by kernel_rfl) (by simp) (AllReadyH.cons rfl (fun K hK => ?_) AllReadyH.nil)
  rw [if_pos (by kernel_rfl)]
  have q0 : w5.cell? ⟨w4.heap.size, 0, none⟩ = some (.int .u32 0) := by rw [hz5.cell]; rfl
  have q1 : w5.cell? ⟨w4.heap.size, 1, none⟩ = some (.int .i64 0) := by rw [hz5.cell]; rfl
  have r0 := hz5.frozen 0
  have r1 := hz5.frozen 1
  have HH5 := Lib.hid (And.intro hx5 (And.intro hy5 (And.intro hz5 hB5)))
  clear hx5 hy5 hz5 hB5 hHeld HS0
  go_simp
  have n1 : w2.heap.size ≠ w4.heap.size := by have := HZ.out.1; have := HZ.out.2; omega
  have n2 : w3.heap.size ≠ w4.heap.size := by have := HZ.out.2; omega
  have n3 : W.heap.size ≤ w4.heap.size := HB4.out.size
  have H : Net3 W.heap.size W w2.heap.size w3.heap.size w4.heap.size X X T n ((n : Int) + 1) ((w5.setCell ⟨w4.heap.size, 0, none⟩ (.int .u32 (T : Int))).setCell ⟨w4.heap.size, 1, none⟩ (.int .i64 ((n : Int) + 1))) :=
    ⟨(HH5.out.1.far (p := ⟨w4.heap.size, 0, none⟩) n1 _).far (p := ⟨w4.heap.size, 1, none⟩) n1 _, (HH5.out.2.1.far (p := ⟨w4.heap.size, 0, none⟩) n2 _).far (p := ⟨w4.heap.size, 1, none⟩) n2 _, (HH5.out.2.2.1.set 0 _).set 1 _, (HH5.out.2.2.2.setCell (p := ⟨w4.heap.size, 0, none⟩) n3 _).setCell (p := ⟨w4.heap.size, 1, none⟩) n3 _⟩
  obtain ⟨w6, hw6⟩ : ∃ w6, (w5.setCell ⟨w4.heap.size, 0, none⟩ (.int .u32 (T : Int))).setCell ⟨w4.heap.size, 1, none⟩ (.int .i64 ((n : Int) + 1)) = w6 := ⟨_, rfl⟩
  try rw [hw6]
  rw [hw6] at H
  clear hw6
  refine hK.out _ _ ⟨H.x, H.y, H.b⟩ (fun hHeld => ?_)
  clear hK
  try simp only [Act.put, List.setIfInBounds_toArray, List.set_cons_zero, List.set_cons_succ, List.getElem_toArray, List.getElem_cons_succ, List.getElem_cons_zero]
  refine wpAnyH_done (by kernel_rfl) ?_ _
  have H := Lib.hid H
  clear q0 q1 r0 r1 n1 n2 n3 hHeld HH5 HX4 HY4 HB4 c0 hv
  cases one with
  | true =>
    have ht : two = false := by cases two with | true => exact (hno rfl rfl).elim | false => rfl
    subst ht
    simp only [Bool.or_false, Bool.true_or, Bool.or_true, Bool.false_or] at HXB
    clear hno
    obtain ⟨x0, x1, y0, y1, z0, z1⟩ := H.out.c
    go_wp2_with fail
    refine (HL.out _).mono ?_
    rintro e v0 ⟨rfl, hb9⟩
    have H := Lib.hid (H.out.on (Nat.le_refl _) hb9)
    clear hb9 x0 x1 y0 y1 z0 z1
    obtain ⟨x0, x1, y0, y1, z0, z1⟩ := H.out.c
    go_wp2_with fail
    refine (HH.out _).mono ?_
    rintro e v1 ⟨rfl, hb9⟩
    have H := Lib.hid (H.out.on (Nat.le_refl _) hb9)
    clear hb9 x0 x1 y0 y1 z0 z1
    obtain ⟨x0, x1, y0, y1, z0, z1⟩ := H.out.c
    go_wp2_with fail
    refine (HXB.out _).mono ?_
    rintro e v2 ⟨rfl, hb9⟩
    have H := Lib.hid (H.out.on (Nat.le_refl _) hb9)
    clear hb9 x0 x1 y0 y1 z0 z1
    obtain ⟨x0, x1, y0, y1, z0, z1⟩ := H.out.c
    go_wp2_with fail
    refine (HX1.out _).mono ?_
    rintro e v3 ⟨rfl, hb9⟩
    have H := Lib.hid (H.out.on (Nat.le_refl _) hb9)
    clear hb9 x0 x1 y0 y1 z0 z1
    obtain ⟨x0, x1, y0, y1, z0, z1⟩ := H.out.c
    go_wp2_with fail
    refine (HX2.out _).mono ?_
    rintro e v4 ⟨rfl, hb9⟩
    have H := Lib.hid (H.out.on (Nat.le_refl _) hb9)
    clear hb9 x0 x1 y0 y1 z0 z1
    go_wp2_with fail
    go_ret
    exact ⟨rfl, H.out.b⟩
  | false =>
    cases two with
    | true =>
      simp only [Bool.or_false, Bool.true_or, Bool.or_true, Bool.false_or] at HXB
      clear hno
      obtain ⟨x0, x1, y0, y1, z0, z1⟩ := H.out.c
      go_wp2_with fail
      refine (HL.out _).mono ?_
      rintro e v0 ⟨rfl, hb9⟩
      have H := Lib.hid (H.out.on (Nat.le_refl _) hb9)
      clear hb9 x0 x1 y0 y1 z0 z1
      obtain ⟨x0, x1, y0, y1, z0, z1⟩ := H.out.c
      go_wp2_with fail
      refine (HH.out _).mono ?_
      rintro e v1 ⟨rfl, hb9⟩
      have H := Lib.hid (H.out.on (Nat.le_refl _) hb9)
      clear hb9 x0 x1 y0 y1 z0 z1
      obtain ⟨x0, x1, y0, y1, z0, z1⟩ := H.out.c
      go_wp2_with fail
      refine (HXB.out _).mono ?_
      rintro e v2 ⟨rfl, hb9⟩
      have H := Lib.hid (H.out.on (Nat.le_refl _) hb9)
      clear hb9 x0 x1 y0 y1 z0 z1
      obtain ⟨x0, x1, y0, y1, z0, z1⟩ := H.out.c
      go_wp2_with fail
      refine (HX1.out _).mono ?_
      rintro e v3 ⟨rfl, hb9⟩
      have H := Lib.hid (H.out.on (Nat.le_refl _) hb9)
      clear hb9 x0 x1 y0 y1 z0 z1
      obtain ⟨x0, x1, y0, y1, z0, z1⟩ := H.out.c
      go_wp2_with fail
      refine (HX2.out _).mono ?_
      rintro e v4 ⟨rfl, hb9⟩
      have H := Lib.hid (H.out.on (Nat.le_refl _) hb9)
      clear hb9 x0 x1 y0 y1 z0 z1
      go_wp2_with fail
      go_ret
      exact ⟨rfl, H.out.b⟩
    | false =>
      simp only [Bool.or_false, Bool.true_or, Bool.or_true, Bool.false_or] at HXB
      clear hno
      obtain ⟨x0, x1, y0, y1, z0, z1⟩ := H.out.c
      go_wp2_with fail
      refine (HL.out _).mono ?_
      rintro e v0 ⟨rfl, hb9⟩
      have H := Lib.hid (H.out.on (Nat.le_refl _) hb9)
      clear hb9 x0 x1 y0 y1 z0 z1
      obtain ⟨x0, x1, y0, y1, z0, z1⟩ := H.out.c
      go_wp2_with fail
      refine (HH.out _).mono ?_
      rintro e v1 ⟨rfl, hb9⟩
      have H := Lib.hid (H.out.on (Nat.le_refl _) hb9)
      clear hb9 x0 x1 y0 y1 z0 z1
      obtain ⟨x0, x1, y0, y1, z0, z1⟩ := H.out.c
      go_wp2_with fail
      refine (HXB.out _).mono ?_
      rintro e v2 ⟨rfl, hb9⟩
      have H := Lib.hid (H.out.on (Nat.le_refl _) hb9)
      clear hb9 x0 x1 y0 y1 z0 z1
      obtain ⟨x0, x1, y0, y1, z0, z1⟩ := H.out.c
      go_wp2_with fail
      refine (HX1.out _).mono ?_
      rintro e v3 ⟨rfl, hb9⟩
      have H := Lib.hid (H.out.on (Nat.le_refl _) hb9)
      clear hb9 x0 x1 y0 y1 z0 z1
      obtain ⟨x0, x1, y0, y1, z0, z1⟩ := H.out.c
      go_wp2_with fail
      refine (HX2.out _).mono ?_
      rintro e v4 ⟨rfl, hb9⟩
      have H := Lib.hid (H.out.on (Nat.le_refl _) hb9)
      clear hb9 x0 x1 y0 y1 z0 z1
      go_wp2_with fail
      go_ret
      exact ⟨rfl, H.out.b⟩
end Go.Proofs.Ytmdijhfkobcbjaa
