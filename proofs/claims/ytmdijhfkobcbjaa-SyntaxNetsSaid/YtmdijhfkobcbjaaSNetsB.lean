/- The walk of SyntaxNets, a part of it. (Written by gen_slaws.py.) -/
import Derived.Test.YtmdijhfkobcbjaaSTwo
import Derived.Test.YtmdijhfkobcbjaaArr
import Derived.Deep.Cut
namespace Go.Proofs.Ytmdijhfkobcbjaa
set_option linter.unusedVariables false
set_option linter.unusedSimpArgs false
open Go.RowKit

set_option maxRecDepth 100000 in
set_option maxHeartbeats 8000000 in
theorem nets_b (a b i k : Nat) (ha : a < 4294967296) (hb : b < 4294967296) (hi : i < 256) (hk : k < 256) (W : World) (hs0 : i % 33 ≤ k % 33) (hI0 : inB (firstN (i % 33) a) (i % 33 : Nat) (firstN (k % 33) b) = false) :
    Calls Try.prog 5 #[.int .u32 a, .int .u32 b, .int .u8 i, .int .u8 k] W fun e w' => e = .returned (.bool true) ∧ Below W.heap.size W w' := by
  have HNA := Lib.hid (show ∀ u, Calls Try.prog 23 #[.int .u32 a, .int .i64 ((i : Int) % 33)] u fun e w' => e = .returned (.agg #[.int .u32 (firstN (i % 33) a), .int .i64 ((i % 33 : Nat) : Int)]) ∧ Below u.heap.size u w' from fun u => by
    have := lnet_ok a (i % 33) u ha (by omega)
    rw [modC] at this ⊢; exact this)
  have HNB := Lib.hid (show ∀ u, Calls Try.prog 23 #[.int .u32 b, .int .i64 ((k : Int) % 33)] u fun e w' => e = .returned (.agg #[.int .u32 (firstN (k % 33) b), .int .i64 ((k % 33 : Nat) : Int)]) ∧ Below u.heap.size u w' from fun u => by
    have := lnet_ok b (k % 33) u hb (by omega)
    rw [modC] at this ⊢; exact this)
  obtain ⟨m, hm⟩ : ∃ m, m = i % 33 := ⟨_, rfl⟩
  obtain ⟨M, hM⟩ : ∃ M, M = k % 33 := ⟨_, rfl⟩
  obtain ⟨X, hX⟩ : ∃ X, X = firstN (i % 33) a := ⟨_, rfl⟩
  obtain ⟨Y, hY⟩ : ∃ Y, Y = firstN (k % 33) b := ⟨_, rfl⟩
  rw [← hX, ← hm] at HNA
  rw [← hY, ← hM] at HNB
  have hm2 : m ≤ 32 := by omega
  have hM2 : M ≤ 32 := by omega
  rw [← hm] at hX
  rw [← hM] at hY
  have hXl : X < 4294967296 := by rw [hX]; exact first_lt _ _ ha
  have hYl : Y < 4294967296 := by rw [hY]; exact first_lt _ _ hb
  have HX := Lib.hid hX
  have HY := Lib.hid hY
  have hs : m ≤ M := by rw [hm, hM]; exact hs0
  have hI1 : inB X (m : Nat) Y = false := by rw [hX, hY, hm, hM]; exact hI0
  clear hX hY hm hM hs0 hI0
  have HI := Lib.hid (fun (n : Nat) (bits : Nat) (z : Nat) (hn : n < 4294967296) (hz : z < 4294967296) (u : World) => in_ok n bits z u hn hz)
  have hi1 : (0 : Int) ≤ (i : Int) := by omega
  have hk1 : (0 : Int) ≤ (k : Int) := by omega
  have f0 : inB X m X = true := by rw [HX.out]; exact in_self _ _ (by omega)
  have f1 : inB Y M Y = true := by rw [HY.out]; exact in_self _ _ (by omega)
  have ga : inB X m a = true → inB Y M a = true → inB X m Y = true := by rw [HX.out, HY.out]; exact nets_apart m M a b a (by omega) (by omega)
  have ka : inB X m Y = true → inB Y M a = true → inB X m a = true := by rw [HX.out, HY.out]; exact nets_within m M a b a (by omega) (by omega)
  have gb : inB X m b = true → inB Y M b = true → inB X m Y = true := by rw [HX.out, HY.out]; exact nets_apart m M a b b (by omega) (by omega)
  have kb : inB X m Y = true → inB Y M b = true → inB X m b = true := by rw [HX.out, HY.out]; exact nets_within m M a b b (by omega) (by omega)
  have CI := Lib.hid (fun u => HI.out X m Y hXl hYl u)
  have CX := Lib.hid (fun u => HI.out X m X hXl hXl u)
  have CY := Lib.hid (fun u => HI.out Y M Y hYl hYl u)
  have XA := Lib.hid (fun u => HI.out X m a hXl ha u)
  have YA := Lib.hid (fun u => HI.out Y M a hYl ha u)
  have XB := Lib.hid (fun u => HI.out X m b hXl hb u)
  have YB := Lib.hid (fun u => HI.out Y M b hYl hb u)
  rw [f0] at CX
  rw [f1] at CY
  obtain ⟨I, hI⟩ : ∃ v, inB X m Y = v := ⟨_, rfl⟩
  obtain ⟨xa, hxa⟩ : ∃ v, inB X m a = v := ⟨_, rfl⟩
  obtain ⟨ya, hya⟩ : ∃ v, inB Y M a = v := ⟨_, rfl⟩
  obtain ⟨xb, hxb⟩ : ∃ v, inB X m b = v := ⟨_, rfl⟩
  obtain ⟨yb, hyb⟩ : ∃ v, inB Y M b = v := ⟨_, rfl⟩
  rw [hI] at CI ga gb ka kb
  rw [hxa] at XA ga ka
  rw [hya] at YA ga ka
  rw [hxb] at XB gb kb
  rw [hyb] at YB gb kb
  obtain rfl : I = false := hI.symm.trans hI1
  clear f0 f1 hI hI1 hxa hya hxb hyb HI
  have hle2 : (m : Int) ≤ (M : Int) := by omega
  go_enter Try.func5, Try.ntmps5
  go_wp2_with fail
  refine (shead_ok _).mono ?_
  rintro e w1 ⟨rfl, hb1⟩
  go_wp2_with fail
  refine (HNA.out _).mono ?_
  rintro e w2 ⟨rfl, hb2⟩
  have HB2 := Lib.hid (hb1.trans (hb2.mono hb1.size))
  clear hb1 hb2
  go_wp2_with fail
  refine (HNB.out _).mono ?_
  rintro e w3 ⟨rfl, hb3⟩
  have hk : Bk w3 w2.heap.size 24 (netC X m) := (Bk.new w2 24 (netC X m)).below hb3 (by simp)
  have HB3 := Lib.hid ((HB2.out.alloc HB2.out.size _).trans (hb3.mono (by have := HB2.out.size; simp; omega)))
  have hz : w2.heap.size < w3.heap.size := hk.lt
  have H := Lib.hid (show Net2 W.heap.size W w2.heap.size w3.heap.size X m Y M (w3.alloc (.cells (netC Y M) 24)) from ⟨hk.alloc _, Bk.new _ _ _, HB3.out.alloc HB3.out.size _⟩)
  have HQ := Lib.hid (And.intro HB2.out.size HB3.out.size)
  clear hk hb3 HB2 HB3
  obtain ⟨c0, c1, c2, c3⟩ := H.out.c
  go_wp2_with fail
  refine (CI.out _).mono ?_
  rintro e w4 ⟨rfl, hb4⟩
  have H := Lib.hid (H.out.on (Nat.le_refl _) hb4)
  clear hb4 c0 c1 c2 c3
  cases xa with
  | true =>
    have hya : ya = false := by cases ya with | true => exact absurd (ga rfl rfl) (by decide) | false => rfl
    subst hya
    cases xb with
    | true =>
      have hyb : yb = false := by cases yb with | true => exact absurd (gb rfl rfl) (by decide) | false => rfl
      subst hyb
      clear ga gb ka kb
      obtain ⟨c0, c1, c2, c3⟩ := H.out.c
      go_wp2_with fail
      refine (CX.out _).mono ?_
      rintro e w5 ⟨rfl, hb5⟩
      have H := Lib.hid (H.out.on (Nat.le_refl _) hb5)
      clear hb5 c0 c1 c2 c3
      obtain ⟨c0, c1, c2, c3⟩ := H.out.c
      go_wp2_with fail
      refine (CY.out _).mono ?_
      rintro e w6 ⟨rfl, hb5⟩
      have H := Lib.hid (H.out.on (Nat.le_refl _) hb5)
      clear hb5 c0 c1 c2 c3
      obtain ⟨c0, c1, c2, c3⟩ := H.out.c
      go_wp2_with fail
      refine (XA.out _).mono ?_
      rintro e w7 ⟨rfl, hb5⟩
      have H := Lib.hid (H.out.on (Nat.le_refl _) hb5)
      clear hb5 c0 c1 c2 c3
      obtain ⟨c0, c1, c2, c3⟩ := H.out.c
      go_wp2_with fail
      refine (YA.out _).mono ?_
      rintro e w8 ⟨rfl, hb5⟩
      have H := Lib.hid (H.out.on (Nat.le_refl _) hb5)
      clear hb5 c0 c1 c2 c3
      obtain ⟨c0, c1, c2, c3⟩ := H.out.c
      go_wp2_with fail
      refine (XB.out _).mono ?_
      rintro e w9 ⟨rfl, hb5⟩
      have H := Lib.hid (H.out.on (Nat.le_refl _) hb5)
      clear hb5 c0 c1 c2 c3
      obtain ⟨c0, c1, c2, c3⟩ := H.out.c
      go_wp2_with fail
      refine (YB.out _).mono ?_
      rintro e w10 ⟨rfl, hb5⟩
      have H := Lib.hid (H.out.on (Nat.le_refl _) hb5)
      clear hb5 c0 c1 c2 c3
      go_wp2_with fail
      all_goals (first | (go_ret; exact ⟨rfl, H.out.b⟩) | (exfalso; have hh := ‹some undef = some (Value.bool _)›; injection hh with hh; cases hh))
    | false =>
      clear ga gb ka kb
      obtain ⟨c0, c1, c2, c3⟩ := H.out.c
      go_wp2_with fail
      refine (CX.out _).mono ?_
      rintro e w5 ⟨rfl, hb5⟩
      have H := Lib.hid (H.out.on (Nat.le_refl _) hb5)
      clear hb5 c0 c1 c2 c3
      obtain ⟨c0, c1, c2, c3⟩ := H.out.c
      go_wp2_with fail
      refine (CY.out _).mono ?_
      rintro e w6 ⟨rfl, hb5⟩
      have H := Lib.hid (H.out.on (Nat.le_refl _) hb5)
      clear hb5 c0 c1 c2 c3
      obtain ⟨c0, c1, c2, c3⟩ := H.out.c
      go_wp2_with fail
      refine (XA.out _).mono ?_
      rintro e w7 ⟨rfl, hb5⟩
      have H := Lib.hid (H.out.on (Nat.le_refl _) hb5)
      clear hb5 c0 c1 c2 c3
      obtain ⟨c0, c1, c2, c3⟩ := H.out.c
      go_wp2_with fail
      refine (YA.out _).mono ?_
      rintro e w8 ⟨rfl, hb5⟩
      have H := Lib.hid (H.out.on (Nat.le_refl _) hb5)
      clear hb5 c0 c1 c2 c3
      obtain ⟨c0, c1, c2, c3⟩ := H.out.c
      go_wp2_with fail
      refine (XB.out _).mono ?_
      rintro e w9 ⟨rfl, hb5⟩
      have H := Lib.hid (H.out.on (Nat.le_refl _) hb5)
      clear hb5 c0 c1 c2 c3
      go_wp2_with fail
      all_goals (first | (go_ret; exact ⟨rfl, H.out.b⟩) | (exfalso; have hh := ‹some undef = some (Value.bool _)›; injection hh with hh; cases hh))
  | false =>
    cases xb with
    | true =>
      have hyb : yb = false := by cases yb with | true => exact absurd (gb rfl rfl) (by decide) | false => rfl
      subst hyb
      clear ga gb ka kb
      obtain ⟨c0, c1, c2, c3⟩ := H.out.c
      go_wp2_with fail
      refine (CX.out _).mono ?_
      rintro e w5 ⟨rfl, hb5⟩
      have H := Lib.hid (H.out.on (Nat.le_refl _) hb5)
      clear hb5 c0 c1 c2 c3
      obtain ⟨c0, c1, c2, c3⟩ := H.out.c
      go_wp2_with fail
      refine (CY.out _).mono ?_
      rintro e w6 ⟨rfl, hb5⟩
      have H := Lib.hid (H.out.on (Nat.le_refl _) hb5)
      clear hb5 c0 c1 c2 c3
      obtain ⟨c0, c1, c2, c3⟩ := H.out.c
      go_wp2_with fail
      refine (XA.out _).mono ?_
      rintro e w7 ⟨rfl, hb5⟩
      have H := Lib.hid (H.out.on (Nat.le_refl _) hb5)
      clear hb5 c0 c1 c2 c3
      obtain ⟨c0, c1, c2, c3⟩ := H.out.c
      go_wp2_with fail
      refine (XB.out _).mono ?_
      rintro e w8 ⟨rfl, hb5⟩
      have H := Lib.hid (H.out.on (Nat.le_refl _) hb5)
      clear hb5 c0 c1 c2 c3
      obtain ⟨c0, c1, c2, c3⟩ := H.out.c
      go_wp2_with fail
      refine (YB.out _).mono ?_
      rintro e w9 ⟨rfl, hb5⟩
      have H := Lib.hid (H.out.on (Nat.le_refl _) hb5)
      clear hb5 c0 c1 c2 c3
      go_wp2_with fail
      all_goals (first | (go_ret; exact ⟨rfl, H.out.b⟩) | (exfalso; have hh := ‹some undef = some (Value.bool _)›; injection hh with hh; cases hh))
    | false =>
      clear ga gb ka kb
      obtain ⟨c0, c1, c2, c3⟩ := H.out.c
      go_wp2_with fail
      refine (CX.out _).mono ?_
      rintro e w5 ⟨rfl, hb5⟩
      have H := Lib.hid (H.out.on (Nat.le_refl _) hb5)
      clear hb5 c0 c1 c2 c3
      obtain ⟨c0, c1, c2, c3⟩ := H.out.c
      go_wp2_with fail
      refine (CY.out _).mono ?_
      rintro e w6 ⟨rfl, hb5⟩
      have H := Lib.hid (H.out.on (Nat.le_refl _) hb5)
      clear hb5 c0 c1 c2 c3
      obtain ⟨c0, c1, c2, c3⟩ := H.out.c
      go_wp2_with fail
      refine (XA.out _).mono ?_
      rintro e w7 ⟨rfl, hb5⟩
      have H := Lib.hid (H.out.on (Nat.le_refl _) hb5)
      clear hb5 c0 c1 c2 c3
      obtain ⟨c0, c1, c2, c3⟩ := H.out.c
      go_wp2_with fail
      refine (XB.out _).mono ?_
      rintro e w8 ⟨rfl, hb5⟩
      have H := Lib.hid (H.out.on (Nat.le_refl _) hb5)
      clear hb5 c0 c1 c2 c3
      go_wp2_with fail
      all_goals (first | (go_ret; exact ⟨rfl, H.out.b⟩) | (exfalso; have hh := ‹some undef = some (Value.bool _)›; injection hh with hh; cases hh))
end Go.Proofs.Ytmdijhfkobcbjaa
