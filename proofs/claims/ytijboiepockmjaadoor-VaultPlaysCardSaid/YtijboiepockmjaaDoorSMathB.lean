/- A net's halves; an address with a bit turned: plain mathematics. -/
import Derived.Test.YtijboiepockmjaaDoorSMath
namespace Go.Proofs.YtijboiepockmjaaDoor
set_option linter.unusedVariables false
set_option maxRecDepth 100000
set_option linter.unusedSimpArgs false

theorem first_eq (n x y : Nat) : firstN n x = firstN n y ↔ x / 2 ^ (32 - n) = y / 2 ^ (32 - n) := by
  unfold firstN
  constructor
  · intro h; exact Nat.eq_of_mul_eq_mul_right (Nat.pow_pos (by omega)) h
  · intro h; rw [h]
theorem xor_lt (a k : Nat) (ha : a < 4294967296) (hk : k < 32) : a ^^^ 2 ^ (31 - k) < 4294967296 := by
  have h1 : 2 ^ (31 - k) < 2 ^ 32 := Nat.pow_lt_pow_right (by omega) (by omega)
  exact Nat.xor_lt_two_pow (show a < 2 ^ 32 from ha) h1
theorem xor_div (a b d : Nat) : (a ^^^ b) / 2 ^ d = (a / 2 ^ d) ^^^ (b / 2 ^ d) := by
  rw [← Nat.shiftRight_eq_div_pow, Nat.shiftRight_xor_distrib, Nat.shiftRight_eq_div_pow, Nat.shiftRight_eq_div_pow]
theorem in_turned (n k a : Nat) (hn : n ≤ 32) (hk : k < n) : inB (firstN n a) n (a ^^^ 2 ^ (31 - k)) = false := by
  rw [in_first n a _ hn]
  apply decide_eq_false
  rw [first_eq, xor_div]
  have e : 2 ^ (31 - k) / 2 ^ (32 - n) = 2 ^ (31 - k - (32 - n)) := Nat.pow_div (by omega) (by omega)
  rw [e]
  intro h
  have h2 := congrArg (fun x => (a / 2 ^ (32 - n)) ^^^ x) h
  simp only [← Nat.xor_assoc, Nat.xor_self, Nat.zero_xor] at h2
  have : 0 < 2 ^ (31 - k - (32 - n)) := Nat.pow_pos (by omega)
  omega
theorem in_fewer (k a : Nat) (hk : k < 32) : inB (firstN k a) k (a ^^^ 2 ^ (31 - k)) = true := by
  rw [in_first k a _ (by omega)]
  apply decide_eq_true
  rw [first_eq, xor_div]
  have e : 2 ^ (31 - k) / 2 ^ (32 - k) = 0 := Nat.div_eq_of_lt (Nat.pow_lt_pow_right (by omega) (by omega))
  rw [e, Nat.xor_zero]
theorem in_own (n a : Nat) (hn : n ≤ 32) : inB (firstN n a) n a = true := by
  rw [in_first n a a hn]; simp
theorem first_none (a : Nat) (ha : a < 4294967296) : firstN 0 a = 0 := by
  unfold firstN
  rw [Nat.div_eq_of_lt (by show a < 2 ^ 32; exact ha), Nat.zero_mul]
theorem in_all (a : Nat) (ha : a < 4294967296) : inB 0 0 a = true := by
  have := in_first 0 0 a (by omega)
  rw [first_none 0 (by omega), first_none a ha] at this
  exact this.trans (by simp)

/-! The halves of a net. -/
theorem half_low (n a b : Nat) (hn : n < 32) : inB (firstN n a) (n + 1 : Nat) b = decide (b / 2 ^ (31 - n) = a / 2 ^ (32 - n) * 2) := by
  have e1 : firstN n a = firstN (n + 1) (firstN n a) := by
    unfold firstN
    have e : 32 - n = (32 - (n + 1)) + 1 := by omega
    rw [e, Nat.pow_succ, ← Nat.mul_assoc, Nat.mul_right_comm, Nat.mul_div_cancel _ (Nat.pow_pos (by omega))]
  rw [e1, in_first (n + 1) _ b (by omega), decide_eq_decide, first_eq, show 32 - (n + 1) = 31 - n by omega]
  have e2 : firstN n a / 2 ^ (31 - n) = a / 2 ^ (32 - n) * 2 := by
    unfold firstN
    rw [show (2 : Nat) ^ (32 - n) = 2 ^ (31 - n) * 2 by rw [← Nat.pow_succ, show (31 - n).succ = 32 - n by omega], Nat.mul_comm (2 ^ (31 - n)) 2, ← Nat.mul_assoc, Nat.mul_div_cancel _ (Nat.pow_pos (by omega))]
  rw [e2]
theorem half_or (n a : Nat) (hn : n < 32) : firstN n a ||| 2 ^ (31 - n) = (a / 2 ^ (32 - n) * 2 + 1) * 2 ^ (31 - n) := by
  have e : firstN n a = (a / 2 ^ (32 - n)) <<< (31 - n + 1) := by
    unfold firstN
    rw [Nat.shiftLeft_eq, show 31 - n + 1 = 32 - n by omega]
  have h := Nat.shiftLeft_add_eq_or_of_lt (a := a / 2 ^ (32 - n)) (i := 31 - n + 1) (b := 2 ^ (31 - n)) (Nat.pow_lt_pow_right (by omega) (by omega))
  rw [e, ← h, Nat.shiftLeft_eq, Nat.pow_succ, Nat.add_mul, Nat.one_mul, Nat.mul_comm (2 ^ (31 - n)) 2, ← Nat.mul_assoc]
theorem half_high (n a b : Nat) (hn : n < 32) : inB (firstN n a ||| 2 ^ (31 - n)) (n + 1 : Nat) b = decide (b / 2 ^ (31 - n) = a / 2 ^ (32 - n) * 2 + 1) := by
  rw [half_or n a hn]
  have e1 : (a / 2 ^ (32 - n) * 2 + 1) * 2 ^ (31 - n) = firstN (n + 1) ((a / 2 ^ (32 - n) * 2 + 1) * 2 ^ (31 - n)) := by
    unfold firstN
    rw [show 32 - (n + 1) = 31 - n by omega, Nat.mul_div_cancel _ (Nat.pow_pos (by omega))]
  rw [e1, in_first (n + 1) _ b (by omega), decide_eq_decide, first_eq, show 32 - (n + 1) = 31 - n by omega, Nat.mul_div_cancel _ (Nat.pow_pos (by omega))]
theorem half_whole (n a b : Nat) (hn : n < 32) : inB (firstN n a) n b = (decide (b / 2 ^ (31 - n) = a / 2 ^ (32 - n) * 2) || decide (b / 2 ^ (31 - n) = a / 2 ^ (32 - n) * 2 + 1)) := by
  rw [in_first n a b (by omega)]
  have e : b / 2 ^ (32 - n) = b / 2 ^ (31 - n) / 2 := by
    rw [Nat.div_div_eq_div_mul, ← Nat.pow_succ, show (31 - n).succ = 32 - n by omega]
  rw [Bool.eq_iff_iff, decide_eq_true_iff, first_eq, e, Bool.or_eq_true, decide_eq_true_iff, decide_eq_true_iff]
  omega
theorem half_one (n a : Nat) (hn : n < 32) : inB (firstN n a) n (firstN n a) = true := in_self n a (by omega)
theorem half_two (n a : Nat) (hn : n < 32) : inB (firstN n a) n (firstN n a ||| 2 ^ (31 - n)) = true := by
  rw [half_whole n a _ hn, half_or n a hn, Nat.mul_div_cancel _ (Nat.pow_pos (by omega))]
  simp
theorem half_lt (n a : Nat) (hn : n < 32) (ha : a < 4294967296) : firstN n a ||| 2 ^ (31 - n) < 4294967296 := by
  have h1 : firstN n a < 2 ^ 32 := first_lt n a ha
  exact Nat.or_lt_two_pow h1 (Nat.pow_lt_pow_right (by omega) (by omega))
end Go.Proofs.YtijboiepockmjaaDoor
