/- Nets within nets: plain mathematics. -/
import Derived.Test.YtijboiepockmjaaDoorG3
namespace Go.Proofs.YtijboiepockmjaaDoor
set_option linter.unusedVariables false
set_option maxRecDepth 100000
set_option linter.unusedSimpArgs false

theorem first_lt (n a : Nat) (ha : a < 4294967296) : firstN n a < 4294967296 := Nat.lt_of_le_of_lt (Nat.div_mul_le_self _ _) ha
theorem first_first (m M a : Nat) (h : m ≤ M) (hM : M ≤ 32) : firstN m (firstN M a) = firstN m a := by
  unfold firstN
  obtain ⟨d, hd⟩ : ∃ d, 32 - m = (32 - M) + d := ⟨M - m, by omega⟩
  rw [hd, Nat.pow_add, ← Nat.div_div_eq_div_mul, ← Nat.div_div_eq_div_mul, Nat.mul_div_cancel _ (Nat.pow_pos (by omega))]
theorem first_idem (n a : Nat) (h : n ≤ 32) : firstN n (firstN n a) = firstN n a := first_first n n a (Nat.le_refl _) h
theorem right_first (n a : Nat) (h : n ≤ 32) : rightB (firstN n a) n = true := by
  unfold rightB
  rw [show ((n : Nat) : Int).toNat = n by simp, first_idem n a h]
  have e1 : decide ((0 : Int) ≤ (n : Int)) = true := by simp
  have e2 : decide ((n : Int) ≤ 32) = true := by simp; omega
  rw [e1, e2]; simp
theorem in_first (n p z : Nat) (h : n ≤ 32) : inB (firstN n p) n z = decide (firstN n z = firstN n p) := by
  unfold inB
  rw [right_first n p h]
  simp

theorem in_self (n p : Nat) (h : n ≤ 32) : inB (firstN n p) n (firstN n p) = true := by
  rw [in_first n p _ h, first_idem n p h]; simp
theorem nets_apart (m M p q z : Nat) (h : m ≤ M) (hM : M ≤ 32) (h1 : inB (firstN m p) m z = true) (h2 : inB (firstN M q) M z = true) : inB (firstN m p) m (firstN M q) = true := by
  rw [in_first m p _ (by omega)] at h1 ⊢
  rw [in_first M q _ hM] at h2
  simp only [decide_eq_true_eq] at h1 h2 ⊢
  rw [← h2, first_first m M z h hM, h1]
theorem nets_within (m M p q z : Nat) (h : m ≤ M) (hM : M ≤ 32) (h1 : inB (firstN m p) m (firstN M q) = true) (h2 : inB (firstN M q) M z = true) : inB (firstN m p) m z = true := by
  rw [in_first m p _ (by omega)] at h1 ⊢
  rw [in_first M q _ hM] at h2
  simp only [decide_eq_true_eq] at h1 h2 ⊢
  rw [← h1, ← h2, first_first m M z h hM]
end Go.Proofs.YtijboiepockmjaaDoor
