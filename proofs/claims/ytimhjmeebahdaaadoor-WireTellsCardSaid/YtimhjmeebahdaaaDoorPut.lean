/- num.Put: its contracts. -/
import Derived.Test.YtimhjmeebahdaaaDoorDig
namespace Go.Proofs.YtimhjmeebahdaaaDoor
set_option linter.unusedVariables false
set_option linter.unusedSimpArgs false
open Go.RowKit

set_option maxHeartbeats 400000 in
theorem nput_ok (n : Nat) (w : World) (h1 : n ≤ 1099511627776) :
    Calls Tryd.prog 27 #[.int .i64 n] w fun e w' => e = .returned (.slice (some ⟨w.heap.size, 0, none⟩) (putB n).length (putB n).length) ∧ w' = w.alloc (.cells (bcells (putB n)) 5) := by
  go_enter Tryd.func27, Tryd.ntmps27
  go_wp2_with fail
  refine (digits_ok n 128 _ h1 (by omega) (by omega)).mono ?_
  rintro e w' ⟨L, hL1, hL2, hlt, hge, rfl, rfl⟩
  have hfin := Lib.hid (And.intro (pcells_put n L hL1 hlt hge) (putB_length n L hL1 hlt hge))
  clear hlt hge
  go_wp2_with fail
  go_loopw [10] (fun v10 wr => ∃ k : Nat, k + 1 ≤ L ∧ v10 = .int .i64 k ∧ wr = w.alloc (.cells (pcells 128 n 128 L k) 5)) (fun v10 _ => L - (intOf v10).toNat)
  case atStart => exact ⟨0, by omega, rfl, by rw [pcells_zero]⟩
  case round =>
    obtain ⟨k, hk, rfl, rfl⟩ := hrel
    by_cases hkL : k + 1 < L
    · obtain ⟨d, hd⟩ : ∃ d, d = n / 128 ^ (L - 1 - k) % 128 := ⟨_, rfl⟩
      have hd2 : d < 128 := by rw [hd]; exact Nat.mod_lt _ (by omega)
      have hcell := dmark_at (a := 128) (b := 128) (n := n) (d := d) (by omega : k < L) hd
      have Hd := Lib.hid hd
      clear hd
      go_wp2
      go_roundw
      case rel => exact ⟨k + 1, by omega, by go_num, by rw [← dmark_set (by omega) Hd.out]; rfl⟩
      case measure => simp [intOf]; omega
    · have hk2 : k = L - 1 := by omega
      have Hk := Lib.hid hk2
      clear hk2
      go_wp2
      go_ret
      have := hfin.out
      exact ⟨by rw [this.2]; rfl, by rw [Hk.out, this.1]⟩

set_option maxHeartbeats 400000 in
theorem nput_none (n : Int) (w : World) (h1 : n < 0 ∨ 1099511627776 < n) :
    Calls Tryd.prog 27 #[.int .i64 n] w fun e w' => e = .returned (.slice none 0 0) ∧ w = w' := by
  go_enter Tryd.func27, Tryd.ntmps27
  go_wp2_with fail
  refine (digits_none n 128 _ h1).mono ?_
  rintro e w' ⟨rfl, rfl⟩
  go_wp2
  go_rounds 1
  go_ret
  exact ⟨rfl, rfl⟩
end Go.Proofs.YtimhjmeebahdaaaDoor
