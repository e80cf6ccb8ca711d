/- The law's own net: an address's first bits. -/
import Derived.Test.YtmdijhfkobcbjaaSynM
import Derived.Test.YtmdijhfkobcbjaaSyn1
import Derived.Test.YtmdijhfkobcbjaaWord
namespace Go.Proofs.Ytmdijhfkobcbjaa
set_option linter.unusedVariables false
set_option linter.unusedSimpArgs false
open Go.RowKit

theorem mask_or : ∀ i, i < 32 → wor (4294967296 - 2 ^ (32 - i)) (2 ^ (31 - i)) = 4294967296 - 2 ^ (32 - (i + 1)) := by decide +kernel
theorem mask_lt : ∀ i, i < 32 → 2 ^ (31 - i) < 4294967296 := by decide +kernel
theorem mask_and (n a : Nat) (hn : n ≤ 32) (ha : a < 4294967296) : wand a (4294967296 - 2 ^ (32 - n)) = firstN n a := by
  unfold wand firstN
  obtain ⟨k, hk⟩ : ∃ k, k = 32 - n := ⟨_, rfl⟩
  rw [← hk]
  have hk2 : k ≤ 32 := by omega
  have e1 : 4294967296 - 2 ^ k = (2 ^ (32 - k) - 1) <<< k := by
    rw [Nat.shiftLeft_eq, Nat.sub_mul, ← Nat.pow_add, Nat.one_mul]
    have : 32 - k + k = 32 := by omega
    rw [this]
  have e2 : a / 2 ^ k * 2 ^ k = (a >>> k) <<< k := by rw [Nat.shiftLeft_eq, Nat.shiftRight_eq_div_pow]
  have e : a &&& (4294967296 - 2 ^ k) = a / 2 ^ k * 2 ^ k := by
    rw [e1, e2]
    apply Nat.eq_of_testBit_eq
    intro i
    rw [Nat.testBit_and, Nat.testBit_shiftLeft, Nat.testBit_shiftLeft, Nat.testBit_two_pow_sub_one, Nat.testBit_shiftRight]
    by_cases h : k ≤ i
    · have e3 : k + (i - k) = i := by omega
      rw [e3]
      by_cases h2 : i < 32
      · simp [h]; omega
      · have : a.testBit i = false := Nat.testBit_lt_two_pow (Nat.lt_of_lt_of_le ha (by show 2 ^ 32 ≤ 2 ^ i; exact Nat.pow_le_pow_right (by omega) (by omega)))
        simp [this]
    · simp [h]
  rw [e]
  exact Nat.mod_eq_of_lt (Nat.lt_of_le_of_lt (Nat.div_mul_le_self _ _) ha)

set_option maxHeartbeats 1000000 in
theorem lnet_ok (a n : Nat) (w : World) (ha : a < 4294967296) (hn : n ≤ 32) :
    Calls Try.prog 23 #[.int .u32 a, .int .i64 n] w fun e w' => e = .returned (.agg #[.int .u32 (firstN n a), .int .i64 n]) ∧ Below w.heap.size w w' := by
  go_enter Try.func23, Try.ntmps23
  go_wp2_with fail
  go_loop [5, 6] (fun v5 v6 => ∃ i m : Nat, i ≤ n ∧ v6 = .int .i64 i ∧ v5 = .int .u32 m ∧ Hid (m = 4294967296 - 2 ^ (32 - i))) (fun _ v6 => n - (intOf v6).toNat)
  case atStart => exact ⟨0, 0, by omega, rfl, rfl, Lib.hid (by decide)⟩
  case round =>
    obtain ⟨i, m, hi, rfl, rfl, HM⟩ := hrel
    by_cases hlt : i < n
    · have h31 : (0 : Int) ≤ 31 - (i : Int) := by omega
      have HV := Lib.hid (show bits .or .u32 (m : Int) (2 ^ (31 - i) % 4294967296) = ((4294967296 - 2 ^ (32 - (i + 1)) : Nat) : Int) by
        have e : (2 : Int) ^ (31 - i) % 4294967296 = ((2 ^ (31 - i) : Nat) : Int) := by
          have h1 := mask_lt i (by omega)
          have h2 : (2 : Int) ^ (31 - i) = ((2 ^ (31 - i) : Nat) : Int) := by simp
          rw [h2]
          show ((2 ^ (31 - i) : Nat) : Int) % ((4294967296 : Nat) : Int) = _
          rw [← Int.natCast_emod, Nat.mod_eq_of_lt h1]
        rw [e, w_or, HM.out, mask_or i (by omega)])
      go_wp2
      go_round
      case rel => exact ⟨i + 1, 4294967296 - 2 ^ (32 - (i + 1)), by omega, by go_num, by rw [HV.out], Lib.hid rfl⟩
      case measure => simp [intOf]; omega
    · obtain rfl : i = n := by omega
      have HV := Lib.hid (show bits .and .u32 (a : Int) (m : Int) = ((firstN i a : Nat) : Int) by rw [w_and, HM.out, mask_and i a hn ha])
      go_wp2
      rw [HV.out]
      exact bodyPost_ret (v := .agg #[.int .u32 (firstN i a : Nat), .int .i64 i]) (by simp [results, Try.results23, go_sem]) rfl ⟨rfl, (Below.refl _ _).alloc (Nat.le_refl _) _⟩
end Go.Proofs.Ytmdijhfkobcbjaa
