/- head: the live question of syntax's laws: always yes. -/
import Derived.Test.YtmdijhfkobcbjaaSyn3
import Derived.Test.YtmdijhfkobcbjaaSyn7
import Derived.Test.YtmdijhfkobcbjaaSyn9
namespace Go.Proofs.Ytmdijhfkobcbjaa
set_option linter.unusedVariables false
set_option linter.unusedSimpArgs false
open Go.RowKit

theorem h_a1 : addrO ⟨#[49, 48, 46, 49, 46, 50, 46, 51]⟩ = some 167838211 := by decide +kernel
theorem h_n1 : netO ⟨#[49, 48, 46, 49, 46, 48, 46, 48, 47, 49, 54]⟩ = some (167837696, 16) := by decide +kernel
theorem h_n2 : netO ⟨#[49, 48, 46, 49, 46, 50, 46, 48, 47, 49, 54]⟩ = none := by decide +kernel
theorem h_a2 : addrO ⟨#[49, 48, 46, 49, 46, 50, 46, 48, 51]⟩ = none := by decide +kernel
theorem h_i1 : inB 167837696 16 167838211 = true := by decide +kernel
theorem h_i2 : inB 167837696 16 167903747 = false := by decide +kernel
theorem h_s : bs (slashL 167837696 16) = ⟨#[49, 48, 46, 49, 46, 48, 46, 48, 47, 49, 54]⟩ := by
  have h := net_is _ _ _ h_n1
  exact h.2.2.2.symm
theorem h_d : bs (dotsB 167838211) = ⟨#[49, 48, 46, 49, 46, 50, 46, 51]⟩ := (addr_is _ _ h_a1).2.symm
theorem h_m1 : nameB ⟨#[97, 45, 49]⟩ = true := by decide +kernel
theorem h_m2 : nameB ⟨#[45, 97]⟩ = false := by decide +kernel
theorem h_m3 : nameB ⟨#[]⟩ = false := by decide +kernel

set_option maxRecDepth 100000 in
set_option maxHeartbeats 4000000 in
theorem shead_ok (w : World) : Calls Try.prog 10 #[] w fun e w' => e = .returned (.bool true) ∧ Below w.heap.size w w' := by
  have A1 := Lib.hid (fun u => addr_ok ⟨#[49, 48, 46, 49, 46, 50, 46, 51]⟩ u (by decide))
  have A2 := Lib.hid (fun u => addr_ok ⟨#[49, 48, 46, 49, 46, 50, 46, 48, 51]⟩ u (by decide))
  have N1 := Lib.hid (fun u => net_ok ⟨#[49, 48, 46, 49, 46, 48, 46, 48, 47, 49, 54]⟩ u (by decide))
  have N2 := Lib.hid (fun u => net_ok ⟨#[49, 48, 46, 49, 46, 50, 46, 48, 47, 49, 54]⟩ u (by decide))
  have I1 := Lib.hid (fun u => in_ok 167837696 16 167838211 u (by decide) (by decide))
  have I2 := Lib.hid (fun u => in_ok 167837696 16 167903747 u (by decide) (by decide))
  have S1 := Lib.hid (fun u => slash_ok 167837696 16 u (by decide))
  have D1 := Lib.hid (fun u => dots_ok 167838211 u (by decide))
  have M1 := Lib.hid (fun u => name_ok ⟨#[97, 45, 49]⟩ u (by decide))
  have M2 := Lib.hid (fun u => name_ok ⟨#[45, 97]⟩ u (by decide))
  have M3 := Lib.hid (fun u => name_ok ⟨#[]⟩ u (by decide))
  rw [h_a1] at A1
  rw [h_a2] at A2
  rw [h_n1] at N1
  rw [h_n2] at N2
  rw [h_i1] at I1
  rw [h_i2] at I2
  rw [h_s] at S1
  rw [h_d] at D1
  rw [h_m1] at M1
  rw [h_m2] at M2
  rw [h_m3] at M3
  simp only [Option.getD_some, Option.getD_none, Option.isSome_some, Option.isSome_none] at A1 A2 N1 N2
  simp only [Int.cast_ofNat_Int] at A1 A2 N1 N2 I1 I2 S1 D1
  go_enter Try.func10, Try.ntmps10
  go_wp2_with fail
  refine (A1.out _).mono ?_
  rintro e w1 ⟨rfl, hb1⟩
  go_wp2_with fail
  refine (N1.out _).mono ?_
  rintro e w2 ⟨rfl, hb2⟩
  have HW := Lib.hid (hb1.trans (hb2.mono hb1.size))
  have H := Lib.hid (NetAt.new w2 167837696 16 24)
  clear hb1 hb2
  go_wp2_with fail
  refine (N2.out _).mono ?_
  rintro e w3 ⟨rfl, hb3⟩
  have H3 := Lib.hid (H.out.on H.out.b.size hb3)
  clear hb3 H
  have H3 := Lib.hid (H3.out.on H3.out.b.size ((Below.refl w3.heap.size w3).alloc (Nat.le_refl _) (.cells #[.int .u32 0, .int .i64 0] 24)))
  go_wp2_with fail
  refine (A2.out _).mono ?_
  rintro e w4 ⟨rfl, hb4⟩
  have H4 := Lib.hid (H3.out.on H3.out.b.size hb4)
  clear hb4 H3
  have c0 := H4.out.c0
  have c1 := H4.out.c1
  go_wp2_with fail
  refine (I1.out _).mono ?_
  rintro e w5 ⟨rfl, hb5⟩
  have H5 := Lib.hid (H4.out.on H4.out.b.size hb5)
  clear hb5 H4 c0 c1
  have c0 := H5.out.c0
  have c1 := H5.out.c1
  go_wp2_with fail
  refine (I2.out _).mono ?_
  rintro e w6 ⟨rfl, hb6⟩
  have H6 := Lib.hid (H5.out.on H5.out.b.size hb6)
  clear hb6 H5 c0 c1
  have c0 := H6.out.c0
  have c1 := H6.out.c1
  go_wp2_with fail
  refine (S1.out _).mono ?_
  rintro e w7 ⟨rfl, hb7⟩
  have H7 := Lib.hid (H6.out.on H6.out.b.size hb7)
  clear hb7 H6 c0 c1
  go_wp2_with fail
  refine (D1.out _).mono ?_
  rintro e w8 ⟨rfl, hb8⟩
  have H8 := Lib.hid (H7.out.on H7.out.b.size hb8)
  clear hb8 H7
  go_wp2_with fail
  refine (M1.out _).mono ?_
  rintro e w9 ⟨rfl, rfl⟩
  go_wp2_with fail
  refine (M2.out _).mono ?_
  rintro e w9 ⟨rfl, rfl⟩
  go_wp2_with fail
  refine (M3.out _).mono ?_
  rintro e w9 ⟨rfl, rfl⟩
  go_wp2_with fail
  go_ret
  exact ⟨rfl, HW.out.trans (H8.out.b.mono HW.out.size)⟩
end Go.Proofs.Ytmdijhfkobcbjaa
