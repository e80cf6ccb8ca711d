/- The walk of DigestTells. (Written by gen_runhex.py.) -/
import Derived.Test.YtoekdiefbpnekaaDoorDHead
import Derived.Test.YtoekdiefbpnekaaDoorRSum
import Derived.Test.YtoekdiefbpnekaaDoorRHex
import Derived.Test.YtoekdiefbpnekaaDoorRUnhex
import Derived.Test.YtoekdiefbpnekaaDoorConv
import Derived.Test.YtoekdiefbpnekaaDoorOpen
namespace Go.Proofs.YtoekdiefbpnekaaDoor
set_option linter.unusedVariables false
set_option linter.unusedSimpArgs false
open Go.RowKit

set_option maxRecDepth 100000 in
set_option maxHeartbeats 4000000 in
theorem walk_DigestTells (A : Option Addr) (l : List UInt8) (n c : Nat) (s : ByteArray) (W : World) (w0 : InB W A l n c) (w1 : s.size ≤ maxLen) (hG : Gl W) :
    Calls Tryd.prog 3 #[.slice A n c, .string s] W fun e w' => e = .returned (.bool true) ∧ Below W.heap.size W w' := by
  have HI := Lib.hid w0
  have HG := Lib.hid hG
  unfold maxLen at w1
  clear w0 hG
  by_cases g1 : 20000 < n
  · go_enter Tryd.func3, Tryd.ntmps3
    go_wp2_with fail
    refine (dhead_ok _ HG.out).mono ?_
    rintro e w1 ⟨rfl, hb1⟩
    go_wp2_with fail
    go_ret
    exact ⟨rfl, hb1⟩
  by_cases g2 : 9000 < s.size
  · go_enter Tryd.func3, Tryd.ntmps3
    go_wp2_with fail
    refine (dhead_ok _ HG.out).mono ?_
    rintro e w1 ⟨rfl, hb1⟩
    go_wp2_with fail
    go_ret
    exact ⟨rfl, hb1⟩
  have HN := Lib.hid (show n ≤ 1099511627776 by omega)
  have HS := Lib.hid (show s.size ≤ 1099511627776 by omega)
  have HGW := Lib.hid (show ∀ u, Below W.heap.size W u → Gl u from fun u hu => HG.out.below hu HG.out.size)
  have HRW := Lib.hid (show ∀ u, Below W.heap.size W u → Rb u u.heap.size A l from fun u hu => (HI.out.rb.below hu (Nat.le_refl _)).more hu.size)
  clear w1
  go_enter Tryd.func3, Tryd.ntmps3
  go_wp2_with fail
  refine (dhead_ok _ HG.out).mono ?_
  rintro e w1 ⟨rfl, hb1⟩
  have HB1 := Lib.hid hb1
  clear hb1
  obtain ⟨u, hu⟩ : ∃ u, u = unhexB s.data.toList := ⟨_, rfl⟩
  have HU := Lib.hid hu.symm
  clear hu
  cases u with
  | some x =>
    go_wp2_with fail
    refine (unhex_good s x _ HS.out HU.out).mono ?_
    rintro e w2 ⟨g, rfl, hR, hg, hb2⟩
    have HB2 := Lib.hid (HB1.out.trans (hb2.mono HB1.out.size))
    have HX2 := Lib.hid hR
    clear hR hg hb2
    go_wp2_with fail
    refine (runhex_ok s _ HS.out).mono ?_
    intro e w3 hpost
    obtain ⟨A4, c4, rfl, HY, hb3⟩ : ∃ A4 c4, e = .returned (.tuple #[.slice A4 x.length c4, .bool true]) ∧ Hid (OB w3 w2.heap.size 5 A4 c4 x) ∧ Below w2.heap.size w2 w3 := by
      rcases hpost with ⟨l', A', c', h1, h2, h3, h4⟩ | ⟨h1, _⟩
      · rw [HU.out] at h1; injection h1 with h1; subst h1; exact ⟨A', c', h2, Lib.hid h3, h4⟩
      · rw [HU.out] at h1; cases h1
    have HB3 := Lib.hid (HB2.out.trans (hb3.mono HB2.out.size))
    have HX3 := Lib.hid ((HX2.out.below hb3 (Nat.le_refl _)).more hb3.size)
    clear hpost hb3
    obtain ⟨L, hL⟩ : ∃ L, L = x.length := ⟨_, rfl⟩
    have HLX := Lib.hid hL.symm
    rw [← hL]
    clear hL
    go_wp2_with fail
    refine (sum_ok A n c l _ HI.out.len HI.out.cap HI.out.max HN.out (HGW.out _ HB3.out) (HRW.out _ HB3.out)).mono ?_
    rintro e w4 ⟨rfl, hb4⟩
    have HB4 := Lib.hid (HB3.out.trans (hb4.mono HB3.out.size))
    have HX4 := Lib.hid ((HX3.out.below hb4 (Nat.le_refl _)).more hb4.size)
    have HY4 := Lib.hid (HY.out.stay hb4 (Nat.le_refl _))
    clear hb4
    go_wp2_with fail
    refine (rsum_ok A n c l _ HI.out.len HI.out.cap HN.out HI.out.nil_ (HRW.out _ HB4.out)).mono ?_
    rintro e w5 ⟨rfl, hb5⟩
    have HB5 := Lib.hid (HB4.out.trans (hb5.mono HB4.out.size))
    have HX5 := Lib.hid ((HX4.out.below hb5 (Nat.le_refl _)).more hb5.size)
    have HY5 := Lib.hid (HY4.out.stay hb5 (Nat.le_refl _))
    clear hb5
    go_wp2_with (refine wpList_eqarr (by kernel_rfl) (.tmp 33) (.tmp 35) 26 rfl (sum l) (sum_len l) rfl rfl ?_)
    refine (hex_ok A n c l _ HI.out.len HN.out (HRW.out _ HB5.out)).mono ?_
    rintro e w6 ⟨rfl, hb6⟩
    have HB6 := Lib.hid (HB5.out.trans (hb6.mono HB5.out.size))
    have HX6 := Lib.hid ((HX5.out.below hb6 (Nat.le_refl _)).more hb6.size)
    have HY6 := Lib.hid (HY5.out.stay hb6 (Nat.le_refl _))
    clear hb6
    obtain ⟨PB, hPB⟩ : ∃ B : ByteArray, B = ⟨(hexB l).toArray⟩ := ⟨_, rfl⟩
    have HPB := Lib.hid hPB
    rw [← hPB]
    clear hPB
    go_wp2_with fail
    refine (rhex_ok A n c l _ HI.out.len HN.out (HRW.out _ HB6.out)).mono ?_
    rintro e w7 ⟨rfl, hb7⟩
    have HB7 := Lib.hid (HB6.out.trans (hb7.mono HB6.out.size))
    have HX7 := Lib.hid ((HX6.out.below hb7 (Nat.le_refl _)).more hb7.size)
    have HY7 := Lib.hid (HY6.out.stay hb7 (Nat.le_refl _))
    clear hb7
    rw [← HPB.out]
    have hs1 := str_of (P := Tryd.prog) HX7.out 22 5 9 Tryd.underlying22 Tryd.underlying5 Tryd.underlying9 L L HLX.out
    have hs2 := str_of (P := Tryd.prog) HY7.out.rb 22 5 9 Tryd.underlying22 Tryd.underlying5 Tryd.underlying9 L c4 HLX.out
    obtain ⟨XB, hXB⟩ : ∃ B : ByteArray, B = ⟨x.toArray⟩ := ⟨_, rfl⟩
    rw [← hXB] at hs1 hs2
    clear hXB
    go_wp2_with fail
    go_ret
    exact ⟨rfl, HB7.out⟩
  | none =>
    go_wp2_with fail
    refine (unhex_bad s _ HS.out HU.out).mono ?_
    rintro e w2 ⟨rfl, hb2⟩
    have HB2 := Lib.hid (HB1.out.trans (hb2.mono HB1.out.size))
    clear hb2
    go_wp2_with fail
    refine (runhex_ok s _ HS.out).mono ?_
    intro e w3 hpost
    obtain ⟨rfl, hb3⟩ : e = .returned (.tuple #[.slice none 0 0, .bool false]) ∧ Below w2.heap.size w2 w3 := by
      rcases hpost with ⟨l', A', c', h1, h2, h3, h4⟩ | ⟨_, h2, h3⟩
      · rw [HU.out] at h1; cases h1
      · exact ⟨h2, h3⟩
    have HB3 := Lib.hid (HB2.out.trans (hb3.mono HB2.out.size))
    clear hpost hb3
    go_wp2_with fail
    refine (sum_ok A n c l _ HI.out.len HI.out.cap HI.out.max HN.out (HGW.out _ HB3.out) (HRW.out _ HB3.out)).mono ?_
    rintro e w4 ⟨rfl, hb4⟩
    have HB4 := Lib.hid (HB3.out.trans (hb4.mono HB3.out.size))
    clear hb4
    go_wp2_with fail
    refine (rsum_ok A n c l _ HI.out.len HI.out.cap HN.out HI.out.nil_ (HRW.out _ HB4.out)).mono ?_
    rintro e w5 ⟨rfl, hb5⟩
    have HB5 := Lib.hid (HB4.out.trans (hb5.mono HB4.out.size))
    clear hb5
    go_wp2_with (refine wpList_eqarr (by kernel_rfl) (.tmp 33) (.tmp 35) 26 rfl (sum l) (sum_len l) rfl rfl ?_)
    refine (hex_ok A n c l _ HI.out.len HN.out (HRW.out _ HB5.out)).mono ?_
    rintro e w6 ⟨rfl, hb6⟩
    have HB6 := Lib.hid (HB5.out.trans (hb6.mono HB5.out.size))
    clear hb6
    obtain ⟨PB, hPB⟩ : ∃ B : ByteArray, B = ⟨(hexB l).toArray⟩ := ⟨_, rfl⟩
    have HPB := Lib.hid hPB
    rw [← hPB]
    clear hPB
    go_wp2_with fail
    refine (rhex_ok A n c l _ HI.out.len HN.out (HRW.out _ HB6.out)).mono ?_
    rintro e w7 ⟨rfl, hb7⟩
    have HB7 := Lib.hid (HB6.out.trans (hb7.mono HB6.out.size))
    clear hb7
    rw [← HPB.out]
    have hs1 := str_of (P := Tryd.prog) (Rb.nil w7 0 none) 22 5 9 Tryd.underlying22 Tryd.underlying5 Tryd.underlying9 0 0 rfl
    go_wp2_with fail
    go_ret
    exact ⟨rfl, HB7.out⟩
end Go.Proofs.YtoekdiefbpnekaaDoor
