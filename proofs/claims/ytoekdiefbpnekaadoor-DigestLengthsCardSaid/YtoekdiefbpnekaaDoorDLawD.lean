/- The walk of DigestLengths. (Written by gen_rest.py.) -/
import Derived.Test.YtoekdiefbpnekaaDoorDHead
import Derived.Test.YtoekdiefbpnekaaDoorRSum
import Derived.Test.YtoekdiefbpnekaaDoorConv
import Derived.Test.YtoekdiefbpnekaaDoorOpen
namespace Go.Proofs.YtoekdiefbpnekaaDoor
set_option linter.unusedVariables false
set_option linter.unusedSimpArgs false
open Go.RowKit

set_option maxRecDepth 100000 in
set_option maxHeartbeats 4000000 in
theorem walk_DigestLengths (c3 : Int) (n3 : Int) (W : World) (w0 : (Lit.int .u8 c3).wf = true) (w1 : (Lit.int .u8 n3).wf = true) (hG : Gl W) :
    Calls Tryd.prog 4 #[.int .u8 c3, .int .u8 n3] W fun e w' => e = .returned (.bool true) ∧ Below W.heap.size W w' := by
  have hc : 0 ≤ c3 ∧ c3 ≤ 255 := by
    have e1 : IntKind.u8.min = 0 := by decide
    have e2 : IntKind.u8.max = 255 := by decide
    simp only [Lit.wf, e1, e2, Bool.and_eq_true, decide_eq_true_eq] at w0
    exact w0
  have hn : 0 ≤ n3 ∧ n3 ≤ 255 := by
    have e1 : IntKind.u8.min = 0 := by decide
    have e2 : IntKind.u8.max = 255 := by decide
    simp only [Lit.wf, e1, e2, Bool.and_eq_true, decide_eq_true_eq] at w1
    exact w1
  obtain ⟨cn, rfl⟩ := Int.eq_ofNat_of_zero_le hc.1
  obtain ⟨n, rfl⟩ := Int.eq_ofNat_of_zero_le hn.1
  obtain ⟨ch, rfl⟩ : ∃ ch : UInt8, ch.toNat = cn := ⟨UInt8.ofNat cn, by rw [UInt8.toNat_ofNat']; omega⟩
  have hn2 : n ≤ 255 := by omega
  have hwr : IntKind.i64.wrap (n : Int) = (n : Int) := by rw [IntKind.wrap_i64]; omega
  have HG := Lib.hid hG
  clear w0 w1 hG hc hn
  go_enter Tryd.func4, Tryd.ntmps4
  go_wp2_with fail
  refine (dhead_ok _ HG.out).mono ?_
  rintro e w1 ⟨rfl, hb1⟩
  have HB1 := Lib.hid hb1
  clear hb1
  go_wp2_with fail
  go_loopw [7, 6] (fun v7 v6 wr => ∃ (i : Nat) (A3 : Option Addr) (c3 L : Nat), i ≤ n ∧ v7 = .int .i64 i ∧ v6 = .slice A3 L c3 ∧ Hid ((List.replicate i ch).length = L) ∧ Hid (OB wr W.heap.size 5 A3 c3 (List.replicate i ch)) ∧ Hid (Below W.heap.size W wr)) (fun v7 _ _ => n - (intOf v7).toNat)
  case atStart => exact ⟨0, none, 0, 0, by omega, rfl, rfl, Lib.hid rfl, Lib.hid (OB.nil _ _ _), HB1⟩
  case round =>
    obtain ⟨i, A3, c3, L, hi, rfl, rfl, HT, HO, HB⟩ := hrel
    clear HB1
    by_cases hi1 : i < n
    · have hi2 : (i : Int) < (n : Int) := by omega
      have HLB := Lib.hid (show (List.replicate i ch).length ≤ 255 by rw [List.length_replicate]; omega)
      have HT2 := Lib.hid (show List.replicate (i + 1) ch = List.replicate i ch ++ [ch] from List.replicate_succ')
      go_wp2_with (at_builtin; refine wp_app rfl (.tmp 15) (.tmp 17) 22 5 rfl Tryd.underlying22 bytesInfo W.heap.size _ _ _ _ rfl HT.out (HO.out.alloc _) [ch] _ _ _ _ rfl rfl (Rb.one (w := wr) (c := ch) rfl rfl) (by have := HLB.out; rw [List.length_singleton]; omega) (by have := HB.out.size; simp only [World.size_alloc]; omega) ?_; intro A4 c4 w4 ho4 hg4 hb4; rw [show (List.replicate i ch ++ [ch]).length = L + 1 by rw [List.length_append, HT.out]; rfl])
      go_roundw
      case rel => exact ⟨i + 1, A4, c4, L + 1, by omega, by go_num, rfl, Lib.hid (by rw [HT2.out, List.length_append, HT.out]; rfl), Lib.hid (by rw [HT2.out]; exact ho4), Lib.hid ((HB.out.alloc HB.out.size _).trans hb4)⟩
      case measure => simp [intOf]; omega
    · have hi2 : (n : Int) ≤ (i : Int) := by omega
      have HLL := Lib.hid (show L ≤ 255 by rw [← HT.out, List.length_replicate]; omega)
      obtain ⟨l, hl⟩ : ∃ l, l = List.replicate i ch := ⟨_, rfl⟩
      rw [← hl] at HT HO
      clear hl
      have HCP := Lib.hid (show L ≤ c3 ∧ c3 ≤ 9223372036854775807 by have := HO.out.cap; rw [HT.out] at this; exact this)
      have HNL := Lib.hid (show A3 = none → L = 0 ∧ c3 = 0 by
        intro h
        subst h
        rcases HO.out.2 with ⟨hv, h0⟩ | ⟨g, cap, cur, hv, _⟩
        · injection hv with _ h1 h2
          exact ⟨by rw [← HT.out]; exact h1, h2⟩
        · injection hv with h1; cases h1)
      go_wp2_with fail
      refine (sum_ok A3 L c3 l _ HT.out HCP.out.1 HCP.out.2 (by have := HLL.out; omega) (HG.out.below HB.out HG.out.size) HO.out.rb).mono ?_
      rintro e w2 ⟨rfl, hb2⟩
      have HO2 := Lib.hid (HO.out.stay hb2 (Nat.le_refl _))
      have HB2 := Lib.hid (HB.out.trans (hb2.mono HB.out.size))
      clear hb2
      go_wp2_with fail
      refine (rsum_ok A3 L c3 l _ HT.out HCP.out.1 (by have := HLL.out; omega) HNL.out HO2.out.rb).mono ?_
      rintro e w3 ⟨rfl, hb3⟩
      have HB3 := Lib.hid (HB2.out.trans (hb3.mono HB2.out.size))
      clear hb3
      go_wp2_with (refine wpList_eqarr (by kernel_rfl) (.tmp 22) (.tmp 24) 26 rfl (sum l) (sum_len l) rfl rfl ?_)
      go_ret
      exact ⟨rfl, HB3.out⟩
end Go.Proofs.YtoekdiefbpnekaaDoor
