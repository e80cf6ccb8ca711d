/- The walk of SyntaxNets, a part of it. (Written by gen_slaws.py.) -/
import Derived.Test.YtmdijhfkobcbjaaSTwo
import Derived.Test.YtmdijhfkobcbjaaArr
import Derived.Deep.Cut
namespace Go.Proofs.Ytmdijhfkobcbjaa
set_option linter.unusedVariables false
set_option linter.unusedSimpArgs false
open Go.RowKit

set_option maxRecDepth 100000 in
set_option maxHeartbeats 8000000 in
theorem nets_c (a b i k : Nat) (ha : a < 4294967296) (hb : b < 4294967296) (hi : i < 256) (hk : k < 256) (W : World) (hs0 : ¬ i % 33 ≤ k % 33) (hI0 : inB (firstN (k % 33) b) (k % 33 : Nat) (firstN (i % 33) a) = true) :
    Calls Try.prog 5 #[.int .u32 a, .int .u32 b, .int .u8 i, .int .u8 k] W fun e w' => e = .returned (.bool true) ∧ Below W.heap.size W w' := by
  have HNA := Lib.hid (show ∀ u, Calls Try.prog 23 #[.int .u32 a, .int .i64 ((i : Int) % 33)] u fun e w' => e = .returned (.agg #[.int .u32 (firstN (i % 33) a), .int .i64 ((i % 33 : Nat) : Int)]) ∧ Below u.heap.size u w' from fun u => by
    have := lnet_ok a (i % 33) u ha (by omega)
    rw [modC] at this ⊢; exact this)
  have HNB := Lib.hid (show ∀ u, Calls Try.prog 23 #[.int .u32 b, .int .i64 ((k : Int) % 33)] u fun e w' => e = .returned (.agg #[.int .u32 (firstN (k % 33) b), .int .i64 ((k % 33 : Nat) : Int)]) ∧ Below u.heap.size u w' from fun u => by
    have := lnet_ok b (k % 33) u hb (by omega)
    rw [modC] at this ⊢; exact this)
  obtain ⟨m, hm⟩ : ∃ m, m = i % 33 := ⟨_, rfl⟩
  obtain ⟨M, hM⟩ : ∃ M, M = k % 33 := ⟨_, rfl⟩
  obtain ⟨X, hX⟩ : ∃ X, X = firstN (i % 33) a := ⟨_, rfl⟩
  obtain ⟨Y, hY⟩ : ∃ Y, Y = firstN (k % 33) b := ⟨_, rfl⟩
  rw [← hX, ← hm] at HNA
  rw [← hY, ← hM] at HNB
  have hm2 : m ≤ 32 := by omega
  have hM2 : M ≤ 32 := by omega
  rw [← hm] at hX
  rw [← hM] at hY
  have hXl : X < 4294967296 := by rw [hX]; exact first_lt _ _ ha
  have hYl : Y < 4294967296 := by rw [hY]; exact first_lt _ _ hb
  have HX := Lib.hid hX
  have HY := Lib.hid hY
  have hs : ¬ m ≤ M := by rw [hm, hM]; exact hs0
  have hI1 : inB Y (M : Nat) X = true := by rw [hX, hY, hm, hM]; exact hI0
  clear hX hY hm hM hs0 hI0
  have HI := Lib.hid (fun (n : Nat) (bits : Nat) (z : Nat) (hn : n < 4294967296) (hz : z < 4294967296) (u : World) => in_ok n bits z u hn hz)
  have hi1 : (0 : Int) ≤ (i : Int) := by omega
  have hk1 : (0 : Int) ≤ (k : Int) := by omega
  have f0 : inB Y M Y = true := by rw [HY.out]; exact in_self _ _ (by omega)
  have f1 : inB X m X = true := by rw [HX.out]; exact in_self _ _ (by omega)
  have ga : inB Y M a = true → inB X m a = true → inB Y M X = true := by rw [HY.out, HX.out]; exact nets_apart M m b a a (by omega) (by omega)
  have ka : inB Y M X = true → inB X m a = true → inB Y M a = true := by rw [HY.out, HX.out]; exact nets_within M m b a a (by omega) (by omega)
  have gb : inB Y M b = true → inB X m b = true → inB Y M X = true := by rw [HY.out, HX.out]; exact nets_apart M m b a b (by omega) (by omega)
  have kb : inB Y M X = true → inB X m b = true → inB Y M b = true := by rw [HY.out, HX.out]; exact nets_within M m b a b (by omega) (by omega)
  have CI := Lib.hid (fun u => HI.out Y M X hYl hXl u)
  have CX := Lib.hid (fun u => HI.out Y M Y hYl hYl u)
  have CY := Lib.hid (fun u => HI.out X m X hXl hXl u)
  have XA := Lib.hid (fun u => HI.out Y M a hYl ha u)
  have YA := Lib.hid (fun u => HI.out X m a hXl ha u)
  have XB := Lib.hid (fun u => HI.out Y M b hYl hb u)
  have YB := Lib.hid (fun u => HI.out X m b hXl hb u)
  rw [f0] at CX
  rw [f1] at CY
  obtain ⟨I, hI⟩ : ∃ v, inB Y M X = v := ⟨_, rfl⟩
  obtain ⟨xa, hxa⟩ : ∃ v, inB Y M a = v := ⟨_, rfl⟩
  obtain ⟨ya, hya⟩ : ∃ v, inB X m a = v := ⟨_, rfl⟩
  obtain ⟨xb, hxb⟩ : ∃ v, inB Y M b = v := ⟨_, rfl⟩
  obtain ⟨yb, hyb⟩ : ∃ v, inB X m b = v := ⟨_, rfl⟩
  rw [hI] at CI ga gb ka kb
  rw [hxa] at XA ga ka
  rw [hya] at YA ga ka
  rw [hxb] at XB gb kb
  rw [hyb] at YB gb kb
  obtain rfl : I = true := hI.symm.trans hI1
  clear f0 f1 hI hI1 hxa hya hxb hyb HI
  have hgt : decide ((m : Int) > (M : Int)) = true := by simp; omega
  have hlt2 : (M : Int) < (m : Int) := by omega
  go_enter Try.func5, Try.ntmps5
  go_wp2_with fail
  refine (shead_ok _).mono ?_
  rintro e w1 ⟨rfl, hb1⟩
  go_wp2_with fail
  refine (HNA.out _).mono ?_
  rintro e w2 ⟨rfl, hb2⟩
  have HB2 := Lib.hid (hb1.trans (hb2.mono hb1.size))
  clear hb1 hb2
  go_wp2_with fail
  refine (HNB.out _).mono ?_
  rintro e w3 ⟨rfl, hb3⟩
  have hk : Bk w3 w2.heap.size 24 (netC X m) := (Bk.new w2 24 (netC X m)).below hb3 (by simp)
  have HB3 := Lib.hid ((HB2.out.alloc HB2.out.size _).trans (hb3.mono (by have := HB2.out.size; simp; omega)))
  have hz : w2.heap.size < w3.heap.size := hk.lt
  have H := Lib.hid (show Net2 W.heap.size W w2.heap.size w3.heap.size X m Y M (w3.alloc (.cells (netC Y M) 24)) from ⟨hk.alloc _, Bk.new _ _ _, HB3.out.alloc HB3.out.size _⟩)
  have HQ := Lib.hid (And.intro HB2.out.size HB3.out.size)
  clear hk hb3 HB2 HB3
  obtain ⟨c0, c1, c2, c3⟩ := H.out.c
  have hf0 := H.out.x.frozen 0
  have hf1 := H.out.x.frozen 1
  have hf2 := H.out.y.frozen 0
  have hf3 := H.out.y.frozen 1
  have HQ2 := Lib.hid (And.intro hz HQ.out)
  clear HQ hz
  go_upto_region 6 with (fail)
  refine gen_world (fun u => Net2 W.heap.size W w2.heap.size w3.heap.size X m Y M u ∧ Bk u (w3.heap.size + 1) 24 (netC X m)) ⟨⟨H.out.x.alloc _, H.out.y.alloc _, H.out.b.alloc (Nat.le_trans HQ2.out.2.2 (by simp)) _⟩, Bk.here (by simp)⟩ (fun w4 hw4 => ?_)
  clear c0 c1 c2 c3 hf0 hf1 hf2 hf3
  have HZ := Lib.hid hw4.2
  have H := Lib.hid hw4.1
  clear hw4
  obtain ⟨c0, c1, c2, c3⟩ := H.out.c
  have c4 : w4.cell? ⟨w3.heap.size + 1, 0, none⟩ = some (.int .u32 (X : Int)) := by rw [HZ.out.cell]; rfl
  have c5 : w4.cell? ⟨w3.heap.size + 1, 1, none⟩ = some (.int .i64 (m : Int)) := by rw [HZ.out.cell]; rfl
  have hf0 := H.out.x.frozen 0
  have hf1 := H.out.x.frozen 1
  have hf2 := H.out.y.frozen 0
  have hf3 := H.out.y.frozen 1
  go_upto_region 7 with (fail)
  refine gen_world (fun u => Net2 W.heap.size W w2.heap.size w3.heap.size Y M Y M u ∧ Bk u (w3.heap.size + 1) 24 (netC X m)) ⟨⟨((H.out.x.set 0 _).set 1 _), (H.out.y.far (by show w3.heap.size ≠ w2.heap.size; have := HQ2.out.1; omega) _).far (by show w3.heap.size ≠ w2.heap.size; have := HQ2.out.1; omega) _, (H.out.b.setCell (p := ⟨w2.heap.size, 0, none⟩) HQ2.out.2.1 _).setCell (p := ⟨w2.heap.size, 1, none⟩) HQ2.out.2.1 _⟩, (HZ.out.far (by show w3.heap.size + 1 ≠ w2.heap.size; have := HQ2.out.1; omega) _).far (by show w3.heap.size + 1 ≠ w2.heap.size; have := HQ2.out.1; omega) _⟩ (fun w5 hw5 => ?_)
  clear c0 c1 c2 c3 c4 c5 hf0 hf1 hf2 hf3
  have HZ := Lib.hid hw5.2
  have H := Lib.hid hw5.1
  clear hw5
  have c4 : w5.cell? ⟨w3.heap.size + 1, 0, none⟩ = some (.int .u32 (X : Int)) := by rw [HZ.out.cell]; rfl
  have c5 : w5.cell? ⟨w3.heap.size + 1, 1, none⟩ = some (.int .i64 (m : Int)) := by rw [HZ.out.cell]; rfl
  obtain ⟨c0, c1, c2, c3⟩ := H.out.c
  have hf2 := H.out.y.frozen 0
  have hf3 := H.out.y.frozen 1
  go_upto_region 8 with (fail)
  have hBy := Nat.le_trans HQ2.out.2.1 (Nat.le_of_lt HQ2.out.1)
  refine gen_world (fun u => Net2 W.heap.size W w2.heap.size w3.heap.size Y M X m u) ⟨(H.out.x.far (by show w2.heap.size ≠ w3.heap.size; have := HQ2.out.1; omega) _).far (by show w2.heap.size ≠ w3.heap.size; have := HQ2.out.1; omega) _, ((H.out.y.set 0 _).set 1 _), (H.out.b.setCell (p := ⟨w3.heap.size, 0, none⟩) hBy _).setCell (p := ⟨w3.heap.size, 1, none⟩) hBy _⟩ (fun w6 hw6 => ?_)
  clear c0 c1 c2 c3 c4 c5 hf2 hf3 HZ hBy
  have H := Lib.hid hw6
  clear hw6
  obtain ⟨c0, c1, c2, c3⟩ := H.out.c
  go_wp2_with fail
  refine (CI.out _).mono ?_
  rintro e w4 ⟨rfl, hb4⟩
  have H := Lib.hid (H.out.on (Nat.le_refl _) hb4)
  clear hb4 c0 c1 c2 c3
  cases ya with
  | true =>
    obtain rfl : xa = true := ka (by simp) (by simp)
    cases yb with
    | true =>
      obtain rfl : xb = true := kb (by simp) (by simp)
      clear ga gb ka kb
      obtain ⟨c0, c1, c2, c3⟩ := H.out.c
      go_wp2_with fail
      refine (CX.out _).mono ?_
      rintro e w5 ⟨rfl, hb5⟩
      have H := Lib.hid (H.out.on (Nat.le_refl _) hb5)
      clear hb5 c0 c1 c2 c3
      obtain ⟨c0, c1, c2, c3⟩ := H.out.c
      go_wp2_with fail
      refine (CY.out _).mono ?_
      rintro e w6 ⟨rfl, hb5⟩
      have H := Lib.hid (H.out.on (Nat.le_refl _) hb5)
      clear hb5 c0 c1 c2 c3
      obtain ⟨c0, c1, c2, c3⟩ := H.out.c
      go_wp2_with fail
      refine (YA.out _).mono ?_
      rintro e w7 ⟨rfl, hb5⟩
      have H := Lib.hid (H.out.on (Nat.le_refl _) hb5)
      clear hb5 c0 c1 c2 c3
      obtain ⟨c0, c1, c2, c3⟩ := H.out.c
      go_wp2_with fail
      refine (XA.out _).mono ?_
      rintro e w8 ⟨rfl, hb5⟩
      have H := Lib.hid (H.out.on (Nat.le_refl _) hb5)
      clear hb5 c0 c1 c2 c3
      obtain ⟨c0, c1, c2, c3⟩ := H.out.c
      go_wp2_with fail
      refine (YB.out _).mono ?_
      rintro e w9 ⟨rfl, hb5⟩
      have H := Lib.hid (H.out.on (Nat.le_refl _) hb5)
      clear hb5 c0 c1 c2 c3
      obtain ⟨c0, c1, c2, c3⟩ := H.out.c
      go_wp2_with fail
      refine (XB.out _).mono ?_
      rintro e w10 ⟨rfl, hb5⟩
      have H := Lib.hid (H.out.on (Nat.le_refl _) hb5)
      clear hb5 c0 c1 c2 c3
      go_wp2_with fail
      all_goals (first | (go_ret; exact ⟨rfl, H.out.b⟩) | (exfalso; have hh := ‹some undef = some (Value.bool _)›; injection hh with hh; cases hh))
    | false =>
      clear ga gb ka kb
      obtain ⟨c0, c1, c2, c3⟩ := H.out.c
      go_wp2_with fail
      refine (CX.out _).mono ?_
      rintro e w5 ⟨rfl, hb5⟩
      have H := Lib.hid (H.out.on (Nat.le_refl _) hb5)
      clear hb5 c0 c1 c2 c3
      obtain ⟨c0, c1, c2, c3⟩ := H.out.c
      go_wp2_with fail
      refine (CY.out _).mono ?_
      rintro e w6 ⟨rfl, hb5⟩
      have H := Lib.hid (H.out.on (Nat.le_refl _) hb5)
      clear hb5 c0 c1 c2 c3
      obtain ⟨c0, c1, c2, c3⟩ := H.out.c
      go_wp2_with fail
      refine (YA.out _).mono ?_
      rintro e w7 ⟨rfl, hb5⟩
      have H := Lib.hid (H.out.on (Nat.le_refl _) hb5)
      clear hb5 c0 c1 c2 c3
      obtain ⟨c0, c1, c2, c3⟩ := H.out.c
      go_wp2_with fail
      refine (XA.out _).mono ?_
      rintro e w8 ⟨rfl, hb5⟩
      have H := Lib.hid (H.out.on (Nat.le_refl _) hb5)
      clear hb5 c0 c1 c2 c3
      obtain ⟨c0, c1, c2, c3⟩ := H.out.c
      go_wp2_with fail
      refine (YB.out _).mono ?_
      rintro e w9 ⟨rfl, hb5⟩
      have H := Lib.hid (H.out.on (Nat.le_refl _) hb5)
      clear hb5 c0 c1 c2 c3
      go_wp2_with fail
      all_goals (first | (go_ret; exact ⟨rfl, H.out.b⟩) | (exfalso; have hh := ‹some undef = some (Value.bool _)›; injection hh with hh; cases hh))
  | false =>
    cases yb with
    | true =>
      obtain rfl : xb = true := kb (by simp) (by simp)
      clear ga gb ka kb
      obtain ⟨c0, c1, c2, c3⟩ := H.out.c
      go_wp2_with fail
      refine (CX.out _).mono ?_
      rintro e w5 ⟨rfl, hb5⟩
      have H := Lib.hid (H.out.on (Nat.le_refl _) hb5)
      clear hb5 c0 c1 c2 c3
      obtain ⟨c0, c1, c2, c3⟩ := H.out.c
      go_wp2_with fail
      refine (CY.out _).mono ?_
      rintro e w6 ⟨rfl, hb5⟩
      have H := Lib.hid (H.out.on (Nat.le_refl _) hb5)
      clear hb5 c0 c1 c2 c3
      obtain ⟨c0, c1, c2, c3⟩ := H.out.c
      go_wp2_with fail
      refine (YA.out _).mono ?_
      rintro e w7 ⟨rfl, hb5⟩
      have H := Lib.hid (H.out.on (Nat.le_refl _) hb5)
      clear hb5 c0 c1 c2 c3
      obtain ⟨c0, c1, c2, c3⟩ := H.out.c
      go_wp2_with fail
      refine (YB.out _).mono ?_
      rintro e w8 ⟨rfl, hb5⟩
      have H := Lib.hid (H.out.on (Nat.le_refl _) hb5)
      clear hb5 c0 c1 c2 c3
      obtain ⟨c0, c1, c2, c3⟩ := H.out.c
      go_wp2_with fail
      refine (XB.out _).mono ?_
      rintro e w9 ⟨rfl, hb5⟩
      have H := Lib.hid (H.out.on (Nat.le_refl _) hb5)
      clear hb5 c0 c1 c2 c3
      go_wp2_with fail
      all_goals (first | (go_ret; exact ⟨rfl, H.out.b⟩) | (exfalso; have hh := ‹some undef = some (Value.bool _)›; injection hh with hh; cases hh))
    | false =>
      clear ga gb ka kb
      obtain ⟨c0, c1, c2, c3⟩ := H.out.c
      go_wp2_with fail
      refine (CX.out _).mono ?_
      rintro e w5 ⟨rfl, hb5⟩
      have H := Lib.hid (H.out.on (Nat.le_refl _) hb5)
      clear hb5 c0 c1 c2 c3
      obtain ⟨c0, c1, c2, c3⟩ := H.out.c
      go_wp2_with fail
      refine (CY.out _).mono ?_
      rintro e w6 ⟨rfl, hb5⟩
      have H := Lib.hid (H.out.on (Nat.le_refl _) hb5)
      clear hb5 c0 c1 c2 c3
      obtain ⟨c0, c1, c2, c3⟩ := H.out.c
      go_wp2_with fail
      refine (YA.out _).mono ?_
      rintro e w7 ⟨rfl, hb5⟩
      have H := Lib.hid (H.out.on (Nat.le_refl _) hb5)
      clear hb5 c0 c1 c2 c3
      obtain ⟨c0, c1, c2, c3⟩ := H.out.c
      go_wp2_with fail
      refine (YB.out _).mono ?_
      rintro e w8 ⟨rfl, hb5⟩
      have H := Lib.hid (H.out.on (Nat.le_refl _) hb5)
      clear hb5 c0 c1 c2 c3
      go_wp2_with fail
      all_goals (first | (go_ret; exact ⟨rfl, H.out.b⟩) | (exfalso; have hh := ‹some undef = some (Value.bool _)›; injection hh with hh; cases hh))
end Go.Proofs.Ytmdijhfkobcbjaa
