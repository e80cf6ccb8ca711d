/- The walk of DigestJoin. (Written by gen_djoin.py.) -/
import Derived.Test.YtoekdiefbpnekaaDoorDHead
import Derived.Test.YtoekdiefbpnekaaDoorAppOp
import Derived.Test.YtoekdiefbpnekaaDoorLen
namespace Go.Proofs.YtoekdiefbpnekaaDoor
set_option linter.unusedVariables false
set_option linter.unusedSimpArgs false
open Go.RowKit

theorem cat_bytes (a b : ByteArray) : (a ++ b).data.toList = a.data.toList ++ b.data.toList := by
  rw [ByteArray.data_append, Array.toList_append]
theorem bytes_of (B : ByteArray) (l : List UInt8) (h : B.data.toList = l) : B = ⟨l.toArray⟩ := by
  subst h; cases B; simp

set_option maxRecDepth 100000 in
set_option maxHeartbeats 4000000 in
theorem walk_DigestJoin (A : Option Addr) (l : List UInt8) (n c : Nat) (A' : Option Addr) (l' : List UInt8) (n' c' : Nat) (W : World) (w0 : InB W A l n c) (w1 : InB W A' l' n' c') (z0 : n ≤ 140737488355328) (z1 : n' ≤ 140737488355328) (hG : Gl W) :
    Calls Tryd.prog 5 #[.slice A n c, .slice A' n' c'] W fun e w' => e = .returned (.bool true) ∧ Below W.heap.size W w' := by
  have HI := Lib.hid w0
  have HI2 := Lib.hid w1
  have HG := Lib.hid hG
  obtain ⟨N, hN⟩ : ∃ N, N = n + n' := ⟨_, rfl⟩
  by_cases g1 : 9000 < N
  · have g3 : (9000 : Int) < (N : Int) := by omega
    obtain ⟨y1, y2⟩ := iwrap ((n : Int) + (n' : Int)) N (by omega) (by omega)
    clear w0 w1 hG z0 z1 hN g1
    go_enter Tryd.func5, Tryd.ntmps5
    go_wp2_with fail
    refine (dhead_ok _ HG.out).mono ?_
    rintro e w1 ⟨rfl, hb1⟩
    go_wp2_with fail
    go_ret
    exact ⟨rfl, hb1⟩
  have g3 : (N : Int) ≤ 9000 := by omega
  have HN := Lib.hid (show n ≤ 1099511627776 by omega)
  have HN' := Lib.hid (show n' ≤ 1099511627776 by omega)
  have HNN := Lib.hid (show n + n' ≤ 9000 by omega)
  have HRW := Lib.hid (show ∀ u, Below W.heap.size W u → Rb u u.heap.size A l from fun u hu => (HI.out.rb.below hu (Nat.le_refl _)).more hu.size)
  have HRW2 := Lib.hid (show ∀ u, Below W.heap.size W u → Rb u u.heap.size A' l' from fun u hu => (HI2.out.rb.below hu (Nat.le_refl _)).more hu.size)
  have HLL := Lib.hid (show (l ++ l').length = n + n' by rw [List.length_append, HI.out.len, HI2.out.len])
  obtain ⟨S1, hS1⟩ : ∃ B : ByteArray, B = ⟨(hexB l).toArray⟩ := ⟨_, rfl⟩
  obtain ⟨S2, hS2⟩ : ∃ B : ByteArray, B = ⟨(hexB l').toArray⟩ := ⟨_, rfl⟩
  obtain ⟨X, hX⟩ : ∃ X : ByteArray, X = S1 ++ S2 := ⟨_, rfl⟩
  have HXB := Lib.hid (show X.data.toList = hexB (l ++ l') by rw [hX, cat_bytes, hS1, hS2, hexB_app])
  have HX9 := Lib.hid (show X.size ≤ 1099511627776 by
    have : X.size = (hexB (l ++ l')).length := by rw [← HXB.out]; rfl
    rw [this, hexB_len, HLL.out]; have := HNN.out; omega)
  have HXE := Lib.hid (show X = ⟨(hexB (l ++ l')).toArray⟩ from bytes_of _ _ HXB.out)
  have hsz : S1.size + S2.size ≤ 9223372036854775807 := by
    have e1 : S1.size = (hexB l).length := by rw [hS1]; exact List.size_toArray
    have e2 : S2.size = (hexB l').length := by rw [hS2]; exact List.size_toArray
    rw [e1, e2, hexB_len, hexB_len, HI.out.len, HI2.out.len]; omega
  obtain ⟨B1, hB1⟩ : ∃ B : ByteArray, B = ⟨l.toArray⟩ := ⟨_, rfl⟩
  obtain ⟨B2, hB2⟩ : ∃ B : ByteArray, B = ⟨l'.toArray⟩ := ⟨_, rfl⟩
  obtain ⟨Y, hY⟩ : ∃ X : ByteArray, X = B1 ++ B2 := ⟨_, rfl⟩
  have HYE := Lib.hid (show Y = ⟨(l ++ l').toArray⟩ from bytes_of _ _ (by rw [hY, cat_bytes, hB1, hB2]))
  have hsy : B1.size + B2.size ≤ 9223372036854775807 := by
    have e1 : B1.size = l.length := by rw [hB1]; exact List.size_toArray
    have e2 : B2.size = l'.length := by rw [hB2]; exact List.size_toArray
    rw [e1, e2, HI.out.len, HI2.out.len]; omega
  have HS1 := Lib.hid hS1
  have HS2 := Lib.hid hS2
  have HB1' := Lib.hid hB1
  have HB2' := Lib.hid hB2
  have hcx : S1 ++ S2 = X := hX.symm
  have hcy : B1 ++ B2 = Y := hY.symm
  obtain ⟨y1, y2⟩ := iwrap ((n : Int) + (n' : Int)) N (by omega) (by omega)
  clear w0 w1 hG z0 z1 hN g1 hS1 hS2 hX hB1 hB2 hY
  go_enter Tryd.func5, Tryd.ntmps5
  go_wp2_with fail
  refine (dhead_ok _ HG.out).mono ?_
  rintro e w1 ⟨rfl, hb1⟩
  have HB1 := Lib.hid hb1
  clear hb1
  go_wp2_with fail
  refine (hex_ok A n c l _ HI.out.len HN.out (HRW.out _ HB1.out)).mono ?_
  rintro e w2 ⟨rfl, hb2⟩
  have HB2 := Lib.hid (HB1.out.trans (hb2.mono HB1.out.size))
  clear hb2 HB1
  rw [← HS1.out]
  go_wp2_with fail
  refine (hex_ok A' n' c' l' _ HI2.out.len HN'.out (HRW2.out _ HB2.out)).mono ?_
  rintro e w3 ⟨rfl, hb3⟩
  have HB3 := Lib.hid (HB2.out.trans (hb3.mono HB2.out.size))
  clear hb3 HB2
  rw [← HS2.out]
  go_wp2_with fail
  refine (unhex_good X (l ++ l') _ HX9.out (by rw [HXB.out]; exact unhexB_hexB _)).mono ?_
  rintro e w4 ⟨g, rfl, hR, hg, hb4⟩
  rw [HLL.out]
  have HB4 := Lib.hid (HB3.out.trans (hb4.mono HB3.out.size))
  have HR4 := Lib.hid hR
  clear hR hg hb4 HB3
  have hE : OB (w4.alloc (.cells #[] 5)) w4.heap.size 5 (some ⟨w4.heap.size, 0, none⟩) 0 [] := OB.new 5 [] (Nat.le_refl _) (by decide)
  have HE := Lib.hid hE
  have HA4 := Lib.hid (show Below W.heap.size W (w4.alloc (.cells #[] 5)) from HB4.out.alloc HB4.out.size _)
  have HZ4 := Lib.hid (show w4.heap.size ≤ (w4.alloc (.cells #[] 5)).heap.size by simp)
  clear hE
  go_wp2_with (first
    | (at_builtin; refine wpList_wanted (by kernel_rfl) (fun K hK => ?_); refine op_app_any (.tmp 31) (.tmp 32) 22 5 rfl Tryd.underlying22 bytesInfo w4.heap.size [] _ 0 0 rfl rfl HE.out l A n c _ rfl HI.out.len HI.out.nil_ (HRW.out _ HA4.out) (by have := HI.out.len; have := HNN.out; simp only [List.length_nil]; omega) HZ4.out ?_; intro A5 c5 w5 ho5 hg5 hb5; refine hK _ _ ?_; rw [show (([] : List UInt8) ++ l).length = n from HI.out.len]; clear hK)
    | (at_builtin; refine wpList_wanted (by kernel_rfl) (fun K hK => ?_); refine op_app_any (.tmp 33) (.tmp 34) 22 5 rfl Tryd.underlying22 bytesInfo w4.heap.size l A5 n c5 rfl HI.out.len (show OB w5 w4.heap.size 5 A5 c5 l from ho5) l' A' n' c' _ rfl HI2.out.len HI2.out.nil_ (HRW2.out _ (HA4.out.trans (hb5.mono HB4.out.size))) (by have := HI.out.len; have := HI2.out.len; have := HNN.out; omega) (Nat.le_trans HZ4.out hb5.size) ?_; intro A6 c6 w6 ho6 hg6 hb6; refine hK _ _ ?_; rw [show (l ++ l').length = n + n' from HLL.out]; clear hK))
  have HO6 := Lib.hid ho6
  have HS6 := Lib.hid (show Below w4.heap.size w4 w6 from (((Below.refl _ _).alloc (Nat.le_refl _) _).trans hb5).trans hb6)
  have HB6 := Lib.hid (HB4.out.trans (HS6.out.mono HB4.out.size))
  have HR6 := Lib.hid ((HR4.out.below HS6.out (Nat.le_refl _)).more HS6.out.size)
  clear ho5 hg5 hb5 ho6 hg6 hb6 HE HA4 HZ4 HR4 HB4 HS6
  refine (hex_ok A6 (n + n') c6 (l ++ l') _ HLL.out (by have := HNN.out; omega) HO6.out.rb).mono ?_
  rintro e w7 ⟨rfl, hb7⟩
  have HB7 := Lib.hid (HB6.out.trans (hb7.mono HB6.out.size))
  have HR7 := Lib.hid ((HR6.out.below hb7 (Nat.le_refl _)).more hb7.size)
  clear hb7
  rw [← HXE.out]
  have hs1 := str_of (P := Tryd.prog) HR7.out 22 5 9 Tryd.underlying22 Tryd.underlying5 Tryd.underlying9 (n + n') (n + n') HLL.out
  have hs2 := str_of (P := Tryd.prog) (HRW.out _ HB7.out) 22 5 9 Tryd.underlying22 Tryd.underlying5 Tryd.underlying9 n c HI.out.len
  have hs3 := str_of (P := Tryd.prog) (HRW2.out _ HB7.out) 22 5 9 Tryd.underlying22 Tryd.underlying5 Tryd.underlying9 n' c' HI2.out.len
  rw [← HYE.out] at hs1
  rw [← HB1'.out] at hs2
  rw [← HB2'.out] at hs3
  go_wp2_with fail
  go_ret
  exact ⟨rfl, HB7.out⟩
end Go.Proofs.YtoekdiefbpnekaaDoor
