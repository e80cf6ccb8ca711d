/- An address's text read by a law: plain mathematics. -/
import Derived.Test.YtmdijhfkobcbjaaSynM
namespace Go.Proofs.Ytmdijhfkobcbjaa
set_option linter.unusedVariables false
set_option linter.unusedSimpArgs false

/-- What is reckoned of a text: dots, the numbers ahead of the last dot, the last one. -/
def runP : List UInt8 → Nat → Nat → Nat → Option (Nat × Nat × Nat)
  | [], d, n, p => some (d, n, p)
  | c :: r, d, n, p =>
    if c.toNat = 46 then runP r (d + 1) ((256 * n + p) % 4294967296) 0
    else if c.toNat < 48 ∨ 57 < c.toNat then none
    else if 255 < 10 * p + (c.toNat - 48) then none
    else runP r d n (10 * p + (c.toNat - 48))

theorem run_digit (q : Nat) (r : List UInt8) (d n p : Nat) (hq : q < 10) (h : 10 * p + q ≤ 255) : runP (UInt8.ofNat (q + 48) :: r) d n p = runP r d n (10 * p + q) := by
  have e : (UInt8.ofNat (q + 48)).toNat = q + 48 := u8_ofNat _ (by omega)
  rw [runP, e, if_neg (by omega), if_neg (by omega), if_neg (by omega)]
  congr 1
theorem run_dec (q : Nat) (r : List UInt8) (d n : Nat) (hq : q ≤ 255) : runP (decB q ++ r) d n 0 = runP r d n q := by
  unfold decB
  by_cases h1 : q < 10
  · rw [dg_small h1]
    simp only [List.map_cons, List.map_nil, List.cons_append, List.nil_append]
    rw [run_digit q r d n 0 h1 (by omega)]; congr 1; omega
  · rw [dg_big (by omega) h1]
    by_cases h2 : q / 10 < 10
    · rw [dg_small h2]
      simp only [List.map_cons, List.map_nil, List.cons_append, List.nil_append]
      rw [run_digit _ _ d n 0 h2 (by omega), run_digit _ _ d n _ (by omega) (by omega)]; congr 1; omega
    · rw [dg_big (by omega) h2, dg_small (by omega : q / 10 / 10 < 10)]
      simp only [List.map_cons, List.map_nil, List.cons_append, List.nil_append]
      rw [run_digit _ _ d n 0 (by omega) (by omega), run_digit _ _ d n _ (by omega) (by omega), run_digit _ _ d n _ (by omega) (by omega)]; congr 1; omega
theorem run_dot (r : List UInt8) (d n p : Nat) : runP (46 :: r) d n p = runP r (d + 1) ((256 * n + p) % 4294967296) 0 := by
  rw [runP]; rfl
theorem run_dots (a : Nat) (ha : a < 4294967296) : runP (dotsB a) 0 0 0 = some (3, a / 256, a % 256) := by
  unfold dotsB
  simp only [joinL]
  rw [run_dec _ _ _ _ (by omega), run_dot, run_dec _ _ _ _ (by omega), run_dot, run_dec _ _ _ _ (by omega), run_dot]
  have e := run_dec (a % 256) [] (0 + 1 + 1 + 1) ((256 * ((256 * ((256 * 0 + a / 16777216 % 256) % 4294967296) + a / 65536 % 256) % 4294967296) + a / 256 % 256) % 4294967296) (by omega)
  rw [List.append_nil] at e
  rw [e, runP]
  congr 3
  omega
theorem run_p (l : List UInt8) : ∀ (d n p D N P : Nat), p ≤ 255 → runP l d n p = some (D, N, P) → P ≤ 255 := by
  induction l with
  | nil => intro d n p D N P hp h; rw [runP] at h; injection h with h; injection h with _ h; injection h with _ h; omega
  | cons c r ih =>
    intro d n p D N P hp h
    rw [runP] at h
    split at h
    · exact ih _ _ 0 D N P (by omega) h
    · split at h
      · cases h
      · split at h
        · cases h
        · exact ih _ _ _ D N P (by omega) h
end Go.Proofs.Ytmdijhfkobcbjaa
