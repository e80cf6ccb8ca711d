/- num.Decimal: its contracts. -/
import Derived.Test.YtmdijhfkobcbjaaDig
namespace Go.Proofs.Ytmdijhfkobcbjaa
set_option linter.unusedVariables false
set_option linter.unusedSimpArgs false
open Go.RowKit

set_option maxHeartbeats 400000 in
theorem dec_ok (n : Nat) (w : World) (h1 : n ≤ 1099511627776) :
    Calls Try.prog 31 #[.int .i64 n] w fun e w' => e = .returned (.string ⟨(decB n).toArray⟩) ∧ Below w.heap.size w w' := by
  go_enter Try.func31, Try.ntmps31
  go_wp2_with fail
  refine (digits_ok n 10 _ h1 (by omega) (by omega)).mono ?_
  rintro e w' ⟨L, hL1, hL2, hlt, hge, rfl, rfl⟩
  have hfin := Lib.hid (And.intro (pcells_dec n L hL1 hlt hge) (decB_length n L hL1 hlt hge))
  clear hlt hge
  go_wp2_with fail
  go_loopw [9] (fun v9 wr => ∃ k : Nat, k ≤ L ∧ v9 = .int .i64 k ∧ wr = w.alloc (.cells (pcells 48 n 10 L k) 5)) (fun v9 _ => L - (intOf v9).toNat)
  case atStart => exact ⟨0, by omega, rfl, by rw [pcells_zero]⟩
  case round =>
    obtain ⟨k, hk, rfl, rfl⟩ := hrel
    by_cases hkL : k < L
    · obtain ⟨d, hd⟩ : ∃ d, d = n / 10 ^ (L - 1 - k) % 10 := ⟨_, rfl⟩
      have hd2 : d < 10 := by rw [hd]; exact Nat.mod_lt _ (by omega)
      have hcell := dmark_at (a := 48) (b := 10) (n := n) (d := d) (by omega : k < L) hd
      have Hd := Lib.hid hd
      clear hd
      go_wp2
      go_roundw
      case rel => exact ⟨k + 1, by omega, by go_num, by rw [← dmark_set (by omega) Hd.out]; rfl⟩
      case measure => simp [intOf]; omega
    · have hk2 : k = L := by omega
      rw [hk2, hfin.out.1]
      clear hk2
      have hst := str_of (P := Try.prog) (Rb.new w 5 (decB n)) 39 5 9 Try.underlying39 Try.underlying5 Try.underlying9 L L hfin.out.2
      go_wp2
      go_ret
      exact ⟨rfl, by go_grown⟩

set_option maxHeartbeats 400000 in
theorem dec_none (n : Int) (w : World) (h1 : n < 0 ∨ 1099511627776 < n) :
    Calls Try.prog 31 #[.int .i64 n] w fun e w' => e = .returned (.string ⟨#[]⟩) ∧ w = w' := by
  have hst := str_of (P := Try.prog) (Rb.nil w 0 none) 39 5 9 Try.underlying39 Try.underlying5 Try.underlying9 0 0 rfl
  go_enter Try.func31, Try.ntmps31
  go_wp2_with fail
  refine (digits_none n 10 _ h1).mono ?_
  rintro e w' ⟨rfl, rfl⟩
  go_wp2
  go_rounds 1
  go_ret
  exact ⟨rfl, rfl⟩
end Go.Proofs.Ytmdijhfkobcbjaa
