/- The head of ring's laws: its live question is always answered yes. -/
import Derived.Test.YtiomfinimbogaaaRing3
namespace Go.Proofs.Ytiomfinimbogaaa
set_option linter.unusedVariables false
set_option linter.unusedSimpArgs false
open Go.RowKit

/-- New, its blocks being letters. -/
theorem new_at (x : Int) (u : World) :
    Calls Try.prog 10 #[.int .i64 x] u fun e u' => ∃ r g, e = .returned (.pointer (some ⟨r, 0, none⟩)) ∧ Rg u' r g (mostM x) [] ∧ Ke [] u u' ∧ u.heap.size ≤ r ∧ u.heap.size ≤ g :=
  (new_ok x u).mono fun e u' ⟨h1, h2, h3⟩ => ⟨_, _, h1, h2, h3, by omega, by omega⟩
/-- A row of bytes that was just laid, at a block that is none of the ring's. -/
theorem lit_far {u : World} {r g : Nat} {t : TypeId} {l : List UInt8} {fr : Nat × Nat} (hr : r < u.heap.size) (hg : g < u.heap.size) : Rf (u.alloc (.cells (bcells l) t fr)) [r, g] (some ⟨u.heap.size, 0, none⟩) l :=
  .inr ⟨u.heap.size, 0, rfl, by simp; omega, by rw [World.size_alloc]; omega, fun i hi => by rw [cell_of_row _ _ _ _ t fr (heap_alloc_new u _), Nat.zero_add, bcells_at l i hi]⟩
theorem Ke.one (L : List Nat) (u : World) (o : Obj) : Ke L u (u.alloc o) := (Ke.refl L u).alloc o

set_option maxRecDepth 100000 in
set_option maxHeartbeats 8000000 in
theorem rhead_ok (u : World) : Calls Try.prog 9 #[] u fun e u' => e = .returned (.bool true) ∧ Ke [] u u' := by
  have HNEW := Lib.hid (new_at 3 u)
  have e1 : (#[.int .u8 97, .int .u8 98, .int .u8 99, .int .u8 100] : Array Value) = bcells [97, 98, 99, 100] := rfl
  have e2 : (#[.int .u8 120, .int .u8 121, .int .u8 122] : Array Value) = bcells [120, 121, 122] := rfl
  have E1 := Lib.hid e1
  have E2 := Lib.hid e2
  have HA := Lib.hid (show ∀ r g A v, Rg v r g 3 [] → Rf v [r, g] A [97, 98, 99, 100] → Calls Try.prog 15 #[.pointer (some ⟨r, 0, none⟩), .slice A 4 4] v fun e v' => e = .returned (.int .i64 3) ∧ Rg v' r g 3 [97, 98, 99] ∧ Ke [r, g] v v' from
    fun r g A v h1 h2 => (add_ok r g 3 A 4 4 _ _ v h1 rfl (by omega) (by omega) h2).mono fun e v' ⟨k1, k2, k3⟩ => ⟨k1, k2, k3⟩)
  have HT := Lib.hid (show ∀ r g v, Rg v r g 3 [97, 98, 99] → Calls Try.prog 13 #[.pointer (some ⟨r, 0, none⟩), .int .i64 2] v fun e v' => ∃ s, e = .returned (.slice (some ⟨s, 0, none⟩) 2 2) ∧ Bk v' s 5 (bcells [97, 98]) ∧ Rg v' r g 3 [99] ∧ Ke [r] v v' ∧ s ≠ r ∧ s ≠ g from
    fun r g v h1 => (take_ok r g 3 2 _ v h1).mono fun e v' ⟨k1, k2, k3, k4⟩ => ⟨_, k1, k2, k3, k4, Ne.symm (Nat.ne_of_lt h1.lt.1), Ne.symm (Nat.ne_of_lt h1.lt.2)⟩)
  have HA2 := Lib.hid (show ∀ r g A v, Rg v r g 3 [99] → Rf v [r, g] A [120, 121, 122] → Calls Try.prog 15 #[.pointer (some ⟨r, 0, none⟩), .slice A 3 3] v fun e v' => e = .returned (.int .i64 2) ∧ Rg v' r g 3 [99, 120, 121] ∧ Ke [r, g] v v' from
    fun r g A v h1 h2 => (add_ok r g 3 A 3 3 _ _ v h1 rfl (by omega) (by omega) h2).mono fun e v' ⟨k1, k2, k3⟩ => ⟨k1, k2, k3⟩)
  have HL := Lib.hid (show ∀ r g v, Rg v r g 3 [99, 120, 121] → Calls Try.prog 19 #[.pointer (some ⟨r, 0, none⟩)] v fun e v' => ∃ s, e = .returned (.slice (some ⟨s, 0, none⟩) 3 3) ∧ Bk v' s 5 (bcells [99, 120, 121]) ∧ Rg v' r g 3 [99, 120, 121] ∧ Ke [] v v' from
    fun r g v h1 => (look_ok r g 3 _ v h1).mono fun e v' ⟨k1, k2, k3⟩ => ⟨_, k1, k2, h1.ke k3 (by simp) (by simp), k3⟩)
  have HM := Lib.hid (show ∀ r g v, Rg v r g 3 [99, 120, 121] → Calls Try.prog 17 #[.pointer (some ⟨r, 0, none⟩)] v fun e v' => e = .returned (.int .i64 3) ∧ v' = v from
    fun r g v h1 => (many_ok r g 3 _ v h1).mono fun e v' k => k)
  have HR := Lib.hid (show ∀ r g v, Rg v r g 3 [99, 120, 121] → Calls Try.prog 18 #[.pointer (some ⟨r, 0, none⟩)] v fun e v' => e = .returned (.int .i64 0) ∧ Rg v' r g 3 [99, 120, 121] ∧ Ke [] v v' from
    fun r g v h1 => (room_ok r g 3 _ v h1).mono fun e v' k => ⟨k.1, h1.ke k.2 (by simp) (by simp), k.2⟩)
  have HT2 := Lib.hid (show ∀ r g v, Rg v r g 3 [99, 120, 121] → Calls Try.prog 13 #[.pointer (some ⟨r, 0, none⟩), .int .i64 9] v fun e v' => ∃ s, e = .returned (.slice (some ⟨s, 0, none⟩) 3 3) ∧ Bk v' s 5 (bcells [99, 120, 121]) ∧ Rg v' r g 3 [] ∧ Ke [r] v v' from
    fun r g v h1 => (take_ok r g 3 9 _ v h1).mono fun e v' ⟨k1, k2, k3, k4⟩ => ⟨_, k1, k2, k3, k4⟩)
  have HR2 := Lib.hid (show ∀ r g v, Rg v r g 3 [] → Calls Try.prog 18 #[.pointer (some ⟨r, 0, none⟩)] v fun e v' => e = .returned (.int .i64 3) ∧ Rg v' r g 3 [] ∧ Ke [] v v' from
    fun r g v h1 => (room_ok r g 3 _ v h1).mono fun e v' k => ⟨k.1, h1.ke k.2 (by simp) (by simp), k.2⟩)
  have Q1 : ((bs [97, 98]).toList == [97, 98]) = true := by rw [bs_list]; rfl
  have Q2 : ((bs [99, 120, 121]).toList == [99, 120, 121]) = true := by rw [bs_list]; rfl
  have kc := fun (w : World) (C : Array Value) (n c : Nat) => Lib.run_convert_bytes_const (P := Try.prog) w 29 5 C n c Try.underlying29 Try.underlying5
  clear e1 e2
  go_enter Try.func9, Try.ntmps9
  go_upto_region 4 with (go_at_call 10; refine HNEW.out.mono ?_; rintro e u1 ⟨r, g, rfl, hr1, hk1, hru, hgu⟩)
  have R1 := Lib.hid (show Rg u1 r g 3 [] ∧ Ke [r, g] u u1 from ⟨hr1, hk1.nil⟩)
  have HU := Lib.hid (And.intro hru hgu)
  clear hr1 hk1 hru hgu
  go_upto_region 5 with (go_at_call 15; rw [E1.out]; refine (HA.out r g _ _ (R1.out.1.ke (Ke.one [] _ _) (by simp) (by simp)) (lit_far R1.out.1.lt.1 R1.out.1.lt.2)).mono ?_; rintro e u2 ⟨rfl, h1, h2⟩)
  have R2 := Lib.hid (show Rg u2 r g 3 [97, 98, 99] ∧ Ke [r, g] u u2 from ⟨h1, (R1.out.2.alloc _).trans h2⟩)
  clear h1 h2
  go_upto_region 6 with (go_at_call 13; refine (HT.out r g _ R2.out.1).mono ?_; rintro e u3 ⟨s, rfl, h0, h1, h2, h3, h4⟩)
  have R3 := Lib.hid (show Rg u3 r g 3 [99] ∧ Ke [r, g] u u3 ∧ Rf u3 [r, g] (some ⟨s, 0, none⟩) [97, 98] from ⟨h1, R2.out.2.trans (h2.more (by simp)), Rf.bk h0 (by simp; exact ⟨h3, h4⟩)⟩)
  clear h0 h1 h2 h3 h4
  go_upto_region 7 with (go_at_call 15; rw [E2.out]; refine (HA2.out r g _ _ (R3.out.1.ke (Ke.one [] _ _) (by simp) (by simp)) (lit_far R3.out.1.lt.1 R3.out.1.lt.2)).mono ?_; rintro e u4 ⟨rfl, h1, h2⟩)
  have R4 := Lib.hid (show Rg u4 r g 3 [99, 120, 121] ∧ Ke [r, g] u u4 ∧ Rf u4 [r, g] (some ⟨s, 0, none⟩) [97, 98] from ⟨h1, (R3.out.2.1.alloc _).trans h2, R3.out.2.2.ke ((Ke.one [r, g] _ _).trans h2) (by simp)⟩)
  clear h1 h2
  go_wp2_with (first
    | (go_at_call 19; refine (HL.out r g _ R4.out.1).mono ?_; rintro e u5 ⟨s5, rfl, h0, h1, h2⟩; have R5 := Lib.hid (show Rg u5 r g 3 [99, 120, 121] ∧ Ke [r, g] u u5 ∧ Rb u5 (s5 + 1) (some ⟨s5, 0, none⟩) [99, 120, 121] from ⟨h1, R4.out.2.1.trans h2.nil, Rb.bk h0⟩); clear h0 h1 h2)
    | (go_at_call 17; refine (HM.out r g _ R5.out.1).mono ?_; rintro e u6 ⟨rfl, rfl⟩)
    | (go_at_call 18; refine (HR.out r g _ R5.out.1).mono ?_; rintro e u7 ⟨rfl, h1, h2⟩; have R7 := Lib.hid (show Rg u7 r g 3 [99, 120, 121] ∧ Ke [r, g] u u7 from ⟨h1, R5.out.2.1.trans h2.nil⟩); clear h1 h2 R5)
    | (go_at_call 13; refine (HT2.out r g _ R7.out.1).mono ?_; rintro e u8 ⟨s8, rfl, h0, h1, h2⟩; have R8 := Lib.hid (show Rg u8 r g 3 [] ∧ Ke [r, g] u u8 ∧ Rb u8 (s8 + 1) (some ⟨s8, 0, none⟩) [99, 120, 121] from ⟨h1, R7.out.2.trans (h2.more (by simp)), Rb.bk h0⟩); clear h0 h1 h2)
    | (go_at_call 18; refine (HR2.out r g _ R8.out.1).mono ?_; rintro e u9 ⟨rfl, h1, h2⟩; have R9 := Lib.hid (show Ke [r, g] u u9 from R8.out.2.1.trans h2.nil); clear h1 h2)
    | (refine wpList_conv (by kernel_rfl) 29 5 9 (.tmp 21) rfl (some ⟨s, 0, none⟩) 2 2 [97, 98] rfl rfl R4.out.2.2.rb Try.underlying29 Try.underlying5 Try.underlying9 ?_)
    | (refine wpList_conv (by kernel_rfl) 29 5 9 (.tmp 31) rfl (some ⟨s5, 0, none⟩) 3 3 [99, 120, 121] rfl rfl R5.out.2.2 Try.underlying29 Try.underlying5 Try.underlying9 ?_)
    | (refine wpList_conv (by kernel_rfl) 29 5 9 (.tmp 47) rfl (some ⟨s8, 0, none⟩) 3 3 [99, 120, 121] rfl rfl R8.out.2.2 Try.underlying29 Try.underlying5 Try.underlying9 ?_))
  go_ret
  exact ⟨rfl, ⟨R9.out.os, R9.out.tape, R9.out.output, R9.out.size, fun k hk _ => R9.out.block k hk (by have := HU.out; simp; omega)⟩⟩
end Go.Proofs.Ytiomfinimbogaaa
