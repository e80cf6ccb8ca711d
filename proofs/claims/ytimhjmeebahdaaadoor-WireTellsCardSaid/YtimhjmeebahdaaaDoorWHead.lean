/- head: the live question of wire's laws: always yes. Great. -/
import Derived.Test.YtimhjmeebahdaaaDoorWire3
import Derived.Test.YtimhjmeebahdaaaDoorWire6
import Derived.Lib.SlBytesConst
import Derived.KernelRfl
namespace Go.Proofs.YtimhjmeebahdaaaDoor
set_option linter.unusedVariables false
set_option linter.unusedSimpArgs false
open Go.RowKit

def mWeb : Mg := ⟨6, ⟨#[119, 101, 98]⟩, ⟨#[]⟩, 10, 0⟩
theorem getE_some (x : Mg) : getE (some x) = .returned (.tuple #[.agg #[.int .i64 x.k, .string x.a, .string x.b, .int .i64 x.n, .int .i64 x.m], .bool true]) := rfl
theorem getE_none : getE none = .returned (.tuple #[.agg #[.int .i64 0, .string ⟨#[]⟩, .string ⟨#[]⟩, .int .i64 0, .int .i64 0], .bool false]) := rfl
theorem wq_r1 : rightM mWeb = true := by decide +kernel
theorem wq_r2 : rightM ⟨13, ⟨#[]⟩, ⟨#[]⟩, 1, 0⟩ = false := by decide +kernel
theorem wq_r3 : rightM ⟨0, ⟨#[]⟩, ⟨#[]⟩, 0, 0⟩ = false := by decide +kernel
theorem wq_put : putW mWeb = [6, 3, 119, 101, 98, 10] := by
  rw [put_right _ wq_r1]
  have e : putB 10 = [10] := by simp [putB, dg]
  have h0 : hasK 6 0 = true := by decide +kernel
  have h1 : hasK 6 1 = false := by decide +kernel
  have h2 : hasK 6 2 = true := by decide +kernel
  have h3 : hasK 6 3 = false := by decide +kernel
  have t : textB ⟨#[119, 101, 98]⟩ = [3, 119, 101, 98] := by decide +kernel
  simp [bodyW, mWeb, pieceW, h0, h1, h2, h3, e, t]
theorem wq_get : getW [7, 1, 97, 2, 131, 0] = some ⟨7, ⟨#[97]⟩, ⟨#[]⟩, 2, 384⟩ := by kernel_rfl
theorem wq_no : getW [13, 0] = none := by kernel_rfl

set_option maxHeartbeats 400000 in
theorem great_ok (x : Mg) (w : World) (ha : x.a.size ≤ 140737488355328) (hb : x.b.size ≤ 140737488355328) : Calls Tryd.prog 10 #[.agg x.cells] w fun e w' => e = .returned (.bool (decide (9000 < x.a.size + x.b.size))) ∧ Below w.heap.size w w' := by
  obtain ⟨k, a, b, n, m⟩ := x
  have hb1 := Bk.new w 23 (Mg.cells ⟨k, a, b, n, m⟩)
  have hB : Below w.heap.size w (w.alloc (.cells #[.int .i64 k, .string a, .string b, .int .i64 n, .int .i64 m] 23)) := by go_grown
  have c1 : (w.alloc (.cells #[.int .i64 k, .string a, .string b, .int .i64 n, .int .i64 m] 23)).cell? ⟨w.heap.size, 1, none⟩ = some (.string a) := by rw [hb1.cell]; rfl
  have c2 : (w.alloc (.cells #[.int .i64 k, .string a, .string b, .int .i64 n, .int .i64 m] 23)).cell? ⟨w.heap.size, 2, none⟩ = some (.string b) := by rw [hb1.cell]; rfl
  clear hb1
  simp only at ha hb ⊢
  have e9 : decide ((9000 : Int) < (a.size : Int) + (b.size : Int)) = decide (9000 < a.size + b.size) := decide_eq_decide.2 (by omega)
  have HE9 := Lib.hid e9
  clear e9
  go_enter Tryd.func10, Tryd.ntmps10
  go_wp2
  go_ret
  exact ⟨by rw [← HE9.out]; rfl, hB⟩

set_option maxRecDepth 100000 in
set_option maxHeartbeats 4000000 in
theorem whead_ok (w : World) (hG : Gw w) : Calls Tryd.prog 9 #[] w fun e w' => e = .returned (.bool true) ∧ Below w.heap.size w w' := by
  have HG := Lib.hid hG
  clear hG
  go_enter Tryd.func9, Tryd.ntmps9
  have H1 := Lib.hid (MgAt.new (B := w.heap.size) (w := w) (x := mWeb) HG.out rfl)
  go_wp2_with fail
  refine (wput_ok mWeb _ H1.out.glob (by decide) (by decide)).mono ?_
  rw [wq_put]
  rintro e w2 ⟨A, c, rfl, hO, hb2⟩
  have H2 := Lib.hid (H1.out.on hb2 (Nat.le_refl _))
  have HR2 := Lib.hid hO.rb
  have HA := Lib.hid (show ∃ g, A = some ⟨g, 0, none⟩ from by obtain ⟨g, h, _⟩ := hO.form (by simp); exact ⟨g, h⟩)
  clear hb2 hO H1
  have hcv := Lib.run_convert_bytes_const (P := Tryd.prog) w2 24 5 #[.int .u8 7, .int .u8 1, .int .u8 97, .int .u8 2, .int .u8 131, .int .u8 0] 6 6 Tryd.underlying24 Tryd.underlying5
  go_wp2_with fail
  clear hcv
  have H3 := Lib.hid (H2.out.on ((Below.refl w2.heap.size w2).alloc (Nat.le_refl _) (.cells #[.int .u8 7, .int .u8 1, .int .u8 97, .int .u8 2, .int .u8 131, .int .u8 0] 5 (6, 7))) (Nat.le_refl _))
  have HP3 := Lib.hid (HR2.out.below ((Below.refl w2.heap.size w2).alloc (Nat.le_refl _) (.cells #[.int .u8 7, .int .u8 1, .int .u8 97, .int .u8 2, .int .u8 131, .int .u8 0] 5 (6, 7))) (Nat.le_refl _))
  have hrb3 : Rb (w2.alloc (.cells #[.int .u8 7, .int .u8 1, .int .u8 97, .int .u8 2, .int .u8 131, .int .u8 0] 5 (6, 7))) (w2.heap.size + 1) (some ⟨w2.heap.size, 0, none⟩) [7, 1, 97, 2, 131, 0] := Rb.marked (l := [7, 1, 97, 2, 131, 0])
  refine (wget_ok (some ⟨w2.heap.size, 0, none⟩) [7, 1, 97, 2, 131, 0] 6 6 _ H3.out.glob (by simpa using hrb3) (by decide) rfl (by omega) (by omega)).mono ?_
  rw [wq_get, getE_some]
  rintro e w3 ⟨rfl, hb3⟩
  have H4 := Lib.hid (H3.out.on hb3 (Nat.le_refl _))
  have HP4 := Lib.hid (HP3.out.below hb3 (by simp))
  have hs3 : w2.heap.size < w3.heap.size := by have := hb3.size; rw [World.size_alloc] at this; omega
  clear hb3 hrb3 H3 HP3 H2 HR2
  go_upto_region 4 with (fail)
  have hx4 : Bk (w3.alloc (.cells #[.int .i64 7, .string ⟨#[97]⟩, .string ⟨#[]⟩, .int .i64 2, .int .i64 384] 23)) w3.heap.size 23 #[.int .i64 7, .string ⟨#[97]⟩, .string ⟨#[]⟩, .int .i64 2, .int .i64 384] := Bk.new _ _ _
  have H5 := Lib.hid (H4.out.on ((Below.refl w3.heap.size w3).alloc (Nat.le_refl _) (.cells #[.int .i64 7, .string ⟨#[97]⟩, .string ⟨#[]⟩, .int .i64 2, .int .i64 384] 23)) (Nat.le_refl _))
  have HP5 := Lib.hid (HP4.out.below ((Below.refl w3.heap.size w3).alloc (Nat.le_refl _) (.cells #[.int .i64 7, .string ⟨#[97]⟩, .string ⟨#[]⟩, .int .i64 2, .int .i64 384] 23)) (Nat.le_of_lt hs3))
  have hs4 : (w3.alloc (.cells #[.int .i64 7, .string ⟨#[97]⟩, .string ⟨#[]⟩, .int .i64 2, .int .i64 384] 23)).heap.size = w3.heap.size + 1 := by simp
  obtain ⟨g3, hg3⟩ : ∃ g3, w3.heap.size = g3 := ⟨_, rfl⟩
  generalize w3.alloc (.cells #[.int .i64 7, .string ⟨#[97]⟩, .string ⟨#[]⟩, .int .i64 2, .int .i64 384] 23) = w4 at hx4 H5 HP5 hs4 ⊢
  rw [hg3] at hx4 hs4 hs3 ⊢
  have HX4 := Lib.hid hx4
  have HS4 := Lib.hid (show w2.heap.size < w4.heap.size by omega)
  clear hx4 H4 HP4 hg3 hs4 hs3
  have hcv := Lib.run_convert_bytes_const (P := Tryd.prog) w4 24 5 #[.int .u8 13, .int .u8 0] 2 2 Tryd.underlying24 Tryd.underlying5
  go_wp2_with fail
  clear hcv
  have hba : Below w4.heap.size w4 (w4.alloc (.cells #[.int .u8 13, .int .u8 0] 5 (2, 3))) := (Below.refl w4.heap.size w4).alloc (Nat.le_refl _) _
  have H6 := Lib.hid (H5.out.on hba (Nat.le_refl _))
  have HP6 := Lib.hid (HP5.out.below hba (Nat.le_of_lt HS4.out))
  have HX6 := Lib.hid (HX4.out.below hba HX4.out.lt)
  have hrb : Rb (w4.alloc (.cells #[.int .u8 13, .int .u8 0] 5 (2, 3))) (w4.heap.size + 1) (some ⟨w4.heap.size, 0, none⟩) [13, 0] := Rb.marked (l := [13, 0])
  refine (wget_ok (some ⟨w4.heap.size, 0, none⟩) [13, 0] 2 2 _ H6.out.glob (by simpa using hrb) (by decide) rfl (by omega) (by omega)).mono ?_
  rw [wq_no, getE_none]
  rintro e w5 ⟨rfl, hb5⟩
  have H7 := Lib.hid (H6.out.on hb5 (Nat.le_refl _))
  have HP7 := Lib.hid (HP6.out.below hb5 (by have := HS4.out; rw [World.size_alloc]; omega))
  have HX7 := Lib.hid (HX6.out.below hb5 HX6.out.lt)
  have HS7 := Lib.hid (show w2.heap.size < w5.heap.size by have := hb5.size; have := HS4.out; rw [World.size_alloc] at *; omega)
  clear hb5 hrb hba H5 HP5 HX4 HS4 H6 HP6 HX6
  go_upto_region 5 with (fail)
  have hba : Below w5.heap.size w5 (w5.alloc (.cells #[.int .i64 0, .string ⟨#[]⟩, .string ⟨#[]⟩, .int .i64 0, .int .i64 0] 23)) := (Below.refl w5.heap.size w5).alloc (Nat.le_refl _) _
  have H8 := Lib.hid (H7.out.on hba (Nat.le_refl _))
  have HP8 := Lib.hid (HP7.out.below hba (Nat.le_of_lt HS7.out))
  have hx8 := HX7.out.below hba HX7.out.lt
  generalize w5.alloc (.cells #[.int .i64 0, .string ⟨#[]⟩, .string ⟨#[]⟩, .int .i64 0, .int .i64 0] 23) = w6 at H8 HP8 hx8 ⊢
  obtain ⟨c0, c1, c2, c3, c4⟩ := bk_msg (x := ⟨7, ⟨#[97]⟩, ⟨#[]⟩, 2, 384⟩) hx8
  obtain ⟨d0, d1, d2, d3, d4⟩ := bk_msg H8.out.row
  simp only [mWeb] at c0 c1 c2 c3 c4 d0 d1 d2 d3 d4
  have hst := str_of (P := Tryd.prog) HP8.out 24 5 9 Tryd.underlying24 Tryd.underlying5 Tryd.underlying9 6 c rfl
  clear hba H7 HP7 HX7 HS7 hx8
  have R1 := Lib.hid (fun u (h : Gw u) => right_ok mWeb u h (by decide) (by decide))
  have R2 := Lib.hid (fun u (h : Gw u) => right_ok ⟨13, ⟨#[]⟩, ⟨#[]⟩, 1, 0⟩ u h (by decide) (by decide))
  have R3 := Lib.hid (fun u (h : Gw u) => right_ok ⟨0, ⟨#[]⟩, ⟨#[]⟩, 0, 0⟩ u h (by decide) (by decide))
  rw [wq_r1] at R1
  rw [wq_r2] at R2
  rw [wq_r3] at R3
  go_wp2_with fail
  refine (R1.out _ H8.out.glob).mono ?_
  rintro e w7 ⟨rfl, hb7⟩
  have H9 := Lib.hid (H8.out.on hb7 (Nat.le_refl _))
  clear hb7 c0 c1 c2 c3 c4 d0 d1 d2 d3 d4 hst R1
  go_wp2_with fail
  refine (R2.out _ H9.out.glob).mono ?_
  rintro e w8 ⟨rfl, hb8⟩
  have H10 := Lib.hid (H9.out.on hb8 (Nat.le_refl _))
  clear hb8 R2
  go_wp2_with fail
  refine (R3.out _ H10.out.glob).mono ?_
  rintro e w9 ⟨rfl, hb9⟩
  have H11 := Lib.hid (H10.out.on hb9 (Nat.le_refl _))
  clear hb9 R3
  go_wp2_with fail
  go_ret
  exact ⟨rfl, H11.out.b⟩
end Go.Proofs.YtimhjmeebahdaaaDoor
