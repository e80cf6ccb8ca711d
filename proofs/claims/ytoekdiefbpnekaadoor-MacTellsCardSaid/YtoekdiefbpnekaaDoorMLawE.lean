/- The walk of MacTells. -/
import Derived.Test.YtoekdiefbpnekaaDoorMHead
import Derived.Test.YtoekdiefbpnekaaDoorGreat
import Derived.Test.YtoekdiefbpnekaaDoorRProof
import Derived.Test.YtoekdiefbpnekaaDoorConv
namespace Go.Proofs.YtoekdiefbpnekaaDoor
set_option linter.unusedVariables false
set_option linter.unusedSimpArgs false
open Go.RowKit

set_option maxRecDepth 100000 in
set_option maxHeartbeats 8000000 in
theorem walk_MacTells (A : Option Addr) (l : List UInt8) (n c : Nat) (A' : Option Addr) (l' : List UInt8) (n' c' : Nat) (A2 : Option Addr) (ws : List ByteArray) (n2 c2 : Nat) (W : World) (w0 : InB W A l n c) (w1 : InB W A' l' n' c') (w2 : InS W A2 ws n2 c2) (hG : Gl W) :
    Calls Tryd.prog 6 #[.slice A n c, .slice A' n' c', .slice A2 n2 c2] W fun e w' => e = .returned (.bool true) ∧ Below W.heap.size W w' := by
  have HI := Lib.hid w0
  have HI2 := Lib.hid w1
  have HSI := Lib.hid w2
  have HG := Lib.hid hG
  have HC2 := Lib.hid (show n2 ≤ 9223372036854775807 by have h1 := w2.cap; have h2 := w2.max; unfold maxLen at h2; omega)
  clear w0 w1 w2 hG
  by_cases g1 : 9000 < n
  · go_enter Tryd.func6, Tryd.ntmps6
    go_wp2_with fail
    refine (mhead_ok _ HG.out).mono ?_
    rintro e w1 ⟨rfl, hb1⟩
    go_wp2_with fail
    go_ret
    exact ⟨rfl, hb1⟩
  by_cases g2 : 9000 < n'
  · go_enter Tryd.func6, Tryd.ntmps6
    go_wp2_with fail
    refine (mhead_ok _ HG.out).mono ?_
    rintro e w1 ⟨rfl, hb1⟩
    go_wp2_with fail
    go_ret
    exact ⟨rfl, hb1⟩
  have HN := Lib.hid (show n ≤ 1099511627776 by omega)
  have HN' := Lib.hid (show n' ≤ 549755813888 by omega)
  have HGW := Lib.hid (show ∀ u, Below W.heap.size W u → Gl u from fun u hu => HG.out.below hu HG.out.size)
  have HRW := Lib.hid (show ∀ u, Below W.heap.size W u → Rb u u.heap.size A l from fun u hu => (HI.out.rb.below hu (Nat.le_refl _)).more hu.size)
  have HRW2 := Lib.hid (show ∀ u, Below W.heap.size W u → Rb u u.heap.size A' l' from fun u hu => (HI2.out.rb.below hu (Nat.le_refl _)).more hu.size)
  have HRWS := Lib.hid (show ∀ u, Below W.heap.size W u → Rs u u.heap.size A2 ws from fun u hu => (HSI.out.rs.below hu (Nat.le_refl _)).more hu.size)
  go_enter Tryd.func6, Tryd.ntmps6
  go_wp2_with fail
  refine (mhead_ok _ HG.out).mono ?_
  rintro e w1 ⟨rfl, hb1⟩
  have HB1 := Lib.hid hb1
  clear hb1
  go_wp2_with fail
  refine (great_ok A2 n2 c2 ws _ HSI.out.len HC2.out (HRWS.out _ HB1.out)).mono ?_
  rintro e w2 ⟨v, rfl, hv, hb2⟩
  have HB2 := Lib.hid (HB1.out.trans (hb2.mono HB1.out.size))
  clear hb2
  cases v with
  | true =>
    go_wp2_with fail
    go_ret
    exact ⟨rfl, HB2.out⟩
  | false =>
  have HSM := Lib.hid (gs_small ws (hv rfl))
  clear hv
  have HSN := Lib.hid (show n2 ≤ 1099511627776 by have h1 := HSM.out.1; rw [HSI.out.len] at h1; omega)
  have HSS := Lib.hid (show ∀ x ∈ ws, x.size ≤ 140737488355328 from fun x hx => by have := HSM.out.2.1 x hx; omega)
  have HTX := Lib.hid (show (textsB ws).length ≤ 549755813888 by have := HSM.out.2.2; omega)
  obtain ⟨PB, hPB⟩ : ∃ B : ByteArray, B = ⟨(proofB l ws).toArray⟩ := ⟨_, rfl⟩
  have HPB := Lib.hid hPB
  obtain ⟨v, hv⟩ : ∃ v, v = decide (l = l') := ⟨_, rfl⟩
  have HV := Lib.hid hv.symm
  clear hPB hv
  go_wp2_with fail
  refine (mac_ok A n c l A' n' c' l' _ HI.out.len HI.out.cap HI.out.max HN.out (HRW.out _ HB2.out) HI2.out.len HN'.out (HRW2.out _ HB2.out) HI2.out.nil_ (HGW.out _ HB2.out)).mono ?_
  rintro e w3 ⟨rfl, hb3⟩
  have HB3 := Lib.hid (HB2.out.trans (hb3.mono HB2.out.size))
  clear hb3
  go_wp2_with fail
  refine (rmac_ok A n c l A' n' c' l' _ HI.out.len HI.out.cap HN.out HI.out.nil_ (HRW.out _ HB3.out) HI2.out.len HN'.out HI2.out.nil_ (HRW2.out _ HB3.out)).mono ?_
  rintro e w4 ⟨rfl, hb4⟩
  have HB4 := Lib.hid (HB3.out.trans (hb4.mono HB3.out.size))
  clear hb4
  go_wp2_with (refine wpList_eqarr (by kernel_rfl) (.tmp 26) (.tmp 29) 26 rfl (macB l l') (macB_len _ _) rfl rfl ?_)
  refine (same_ok A n c l A' n' c' l' v _ HI.out.len HI2.out.len HN.out (by have := HN'.out; omega) (HRW.out _ HB4.out) (HRW2.out _ HB4.out) HV.out).mono ?_
  rintro e w5 ⟨rfl, hb5⟩
  have HB5 := Lib.hid (HB4.out.trans (hb5.mono HB4.out.size))
  clear hb5
  go_wp2_with fail
  refine (rsame_ok A n c l A' n' c' l' v _ HI.out.len HI2.out.len (HRW.out _ HB5.out) (HRW2.out _ HB5.out) HV.out).mono ?_
  rintro e w6 ⟨rfl, hb6⟩
  have HB6 := Lib.hid (HB5.out.trans (hb6.mono HB5.out.size))
  clear hb6
  go_wp2_with fail
  refine (proof_ok A n c l A2 n2 c2 ws _ HI.out.len HI.out.cap HI.out.max HN.out (HRW.out _ HB6.out) HSI.out.len HSN.out (HRWS.out _ HB6.out) HSS.out HTX.out (HGW.out _ HB6.out)).mono ?_
  rintro e w7 ⟨rfl, hb7⟩
  have HB7 := Lib.hid (HB6.out.trans (hb7.mono HB6.out.size))
  clear hb7
  rw [← HPB.out]
  go_wp2_with fail
  refine (rproof_ok A n c l A2 n2 c2 ws _ HI.out.len HI.out.cap HI.out.max HN.out (HRW.out _ HB7.out) HI.out.nil_ HSI.out.len HSN.out (HRWS.out _ HB7.out) HSS.out HTX.out).mono ?_
  rintro e w8 ⟨rfl, hb8⟩
  have HB8 := Lib.hid (HB7.out.trans (hb8.mono HB7.out.size))
  clear hb8
  rw [← HPB.out]
  go_wp2_with fail
  go_ret
  exact ⟨rfl, HB8.out⟩
end Go.Proofs.YtoekdiefbpnekaaDoor
