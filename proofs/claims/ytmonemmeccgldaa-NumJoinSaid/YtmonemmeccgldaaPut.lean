/- num.Put and num.Decimal: their contracts. -/
import Derived.Test.YtmonemmeccgldaaDig
namespace Go.Proofs.Ytmonemmeccgldaa
set_option linter.unusedVariables false
set_option linter.unusedSimpArgs false
open Go.RowKit

theorem mark_set {a n b L k d : Nat} (h : k < L) (hd : d = n / b ^ (L - 1 - k) % b) : (pcells a n b L k).setIfInBounds k (.int .u8 ((d : Int) + (a : Int))) = pcells a n b L (k + 1) := by
  rw [← pcells_set a n b L k h, ← hd]; simp
theorem mark_at {a n b L k d : Nat} (h : k < L) (hd : d = n / b ^ (L - 1 - k) % b) : (pcells a n b L k)[k]? = some (.int .u8 (d : Int)) := by
  rw [pcells_at _ _ _ _ _ _ h, if_neg (by omega), ← hd]

set_option maxHeartbeats 400000 in
theorem put_ok (n : Nat) (w : World) (h1 : n ≤ 1099511627776) :
    Calls Try.prog 16 #[.int .i64 n] w fun e w' => e = .returned (.slice (some ⟨w.heap.size, 0, none⟩) (putB n).length (putB n).length) ∧ w' = w.alloc (.cells (bcells (putB n)) 5) := by
  go_enter Try.func16, Try.ntmps16
  go_wp2_with fail
  refine (digits_ok n 128 _ h1 (by omega) (by omega)).mono ?_
  rintro e w' ⟨L, hL1, hL2, hlt, hge, rfl, rfl⟩
  have hfin := Lib.hid (And.intro (pcells_put n L hL1 hlt hge) (putB_length n L hL1 hlt hge))
  clear hlt hge
  go_wp2_with fail
  go_loopw [10] (fun v10 wr => ∃ k : Nat, k + 1 ≤ L ∧ v10 = .int .i64 k ∧ wr = w.alloc (.cells (pcells 128 n 128 L k) 5)) (fun v10 _ => L - (intOf v10).toNat)
  case atStart => exact ⟨0, by omega, rfl, by rw [pcells_zero]⟩
  case round =>
    obtain ⟨k, hk, rfl, rfl⟩ := hrel
    by_cases hkL : k + 1 < L
    · obtain ⟨d, hd⟩ : ∃ d, d = n / 128 ^ (L - 1 - k) % 128 := ⟨_, rfl⟩
      have hd2 : d < 128 := by rw [hd]; exact Nat.mod_lt _ (by omega)
      have hcell := mark_at (a := 128) (b := 128) (n := n) (d := d) (by omega : k < L) hd
      have Hd := Lib.hid hd
      clear hd
      go_wp2
      go_roundw
      case rel => exact ⟨k + 1, by omega, by go_num, by rw [← mark_set (by omega) Hd.out]; rfl⟩
      case measure => simp [intOf]; omega
    · have hk2 : k = L - 1 := by omega
      have Hk := Lib.hid hk2
      clear hk2
      go_wp2
      go_ret
      have := hfin.out
      exact ⟨by rw [this.2]; rfl, by rw [Hk.out, this.1]⟩

set_option maxHeartbeats 400000 in
theorem put_none (n : Int) (w : World) (h1 : n < 0 ∨ 1099511627776 < n) :
    Calls Try.prog 16 #[.int .i64 n] w fun e w' => e = .returned (.slice none 0 0) ∧ w = w' := by
  go_enter Try.func16, Try.ntmps16
  go_wp2_with fail
  refine (digits_none n 128 _ h1).mono ?_
  rintro e w' ⟨rfl, rfl⟩
  go_wp2
  go_rounds 1
  go_ret
  exact ⟨rfl, rfl⟩


set_option maxHeartbeats 400000 in
theorem dec_ok (n : Nat) (w : World) (h1 : n ≤ 1099511627776) :
    Calls Try.prog 20 #[.int .i64 n] w fun e w' => e = .returned (.string ⟨(decB n).toArray⟩) ∧ Below w.heap.size w w' := by
  go_enter Try.func20, Try.ntmps20
  go_wp2_with fail
  refine (digits_ok n 10 _ h1 (by omega) (by omega)).mono ?_
  rintro e w' ⟨L, hL1, hL2, hlt, hge, rfl, rfl⟩
  have hfin := Lib.hid (And.intro (pcells_dec n L hL1 hlt hge) (decB_length n L hL1 hlt hge))
  clear hlt hge
  go_wp2_with fail
  go_loopw [9] (fun v9 wr => ∃ k : Nat, k ≤ L ∧ v9 = .int .i64 k ∧ wr = w.alloc (.cells (pcells 48 n 10 L k) 5)) (fun v9 _ => L - (intOf v9).toNat)
  case atStart => exact ⟨0, by omega, rfl, by rw [pcells_zero]⟩
  case round =>
    obtain ⟨k, hk, rfl, rfl⟩ := hrel
    by_cases hkL : k < L
    · obtain ⟨d, hd⟩ : ∃ d, d = n / 10 ^ (L - 1 - k) % 10 := ⟨_, rfl⟩
      have hd2 : d < 10 := by rw [hd]; exact Nat.mod_lt _ (by omega)
      have hcell := mark_at (a := 48) (b := 10) (n := n) (d := d) (by omega : k < L) hd
      have Hd := Lib.hid hd
      clear hd
      go_wp2
      go_roundw
      case rel => exact ⟨k + 1, by omega, by go_num, by rw [← mark_set (by omega) Hd.out]; rfl⟩
      case measure => simp [intOf]; omega
    · have hk2 : k = L := by omega
      rw [hk2, hfin.out.1]
      clear hk2
      have hst := str_of (P := Try.prog) (Rb.new w 5 (decB n)) 22 5 9 Try.underlying22 Try.underlying5 Try.underlying9 L L hfin.out.2
      go_wp2
      go_ret
      exact ⟨rfl, by go_grown⟩

set_option maxHeartbeats 400000 in
theorem dec_none (n : Int) (w : World) (h1 : n < 0 ∨ 1099511627776 < n) :
    Calls Try.prog 20 #[.int .i64 n] w fun e w' => e = .returned (.string ⟨#[]⟩) ∧ w = w' := by
  have hst := str_of (P := Try.prog) (Rb.nil w 0 none) 22 5 9 Try.underlying22 Try.underlying5 Try.underlying9 0 0 rfl
  go_enter Try.func20, Try.ntmps20
  go_wp2_with fail
  refine (digits_none n 10 _ h1).mono ?_
  rintro e w' ⟨rfl, rfl⟩
  go_wp2
  go_rounds 1
  go_ret
  exact ⟨rfl, rfl⟩
end Go.Proofs.Ytmonemmeccgldaa
