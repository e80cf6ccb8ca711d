/- The schedule of a block: its words, one by one. Nothing of the program is named here. -/
import Derived.Test.YtoekdiefbpnekaaDoorArr
namespace Go.Proofs.YtoekdiefbpnekaaDoor
set_option linter.unusedVariables false
set_option linter.unusedSimpArgs false

theorem getD_left (l r : List Nat) (i : Nat) (h : i < l.length) : (l ++ r).getD i 0 = l.getD i 0 := by
  rw [List.getD, List.getD, List.getElem?_append_left h]
theorem getD_right (l r : List Nat) (i : Nat) (h : l.length ≤ i) : (l ++ r).getD i 0 = r.getD (i - l.length) 0 := by
  rw [List.getD, List.getD, List.getElem?_append_right h]
theorem schedL_len (l : List Nat) (h : l.length = 16) : ∀ n, (schedL l n).length = 16 + n
  | 0 => by rw [schedL, h]
  | n + 1 => by rw [schedL, List.length_append, schedL_len l h n]; simp; omega
theorem schedL_low (l : List Nat) (h : l.length = 16) (n i : Nat) (hi : i < 16 + n) : ∀ k, (schedL l (n + k)).getD i 0 = (schedL l n).getD i 0
  | 0 => rfl
  | k + 1 => by
    have hl := schedL_len l h (n + k)
    rw [← Nat.add_assoc, schedL, getD_left _ _ _ (by omega), schedL_low l h n i hi k]
theorem sched_len (l : List Nat) (h : l.length = 16) : (sched l).length = 64 := schedL_len l h 48
theorem sched_take (l : List Nat) (h : l.length = 16) : (sched l).take 16 = l := by
  have : ∀ n, ∃ r, schedL l n = l ++ r := by
    intro n
    induction n with
    | zero => exact ⟨[], by rw [schedL, List.append_nil]⟩
    | succ n ih => obtain ⟨r, hr⟩ := ih; exact ⟨r ++ [nextW (schedL l n)], by rw [schedL, ← List.append_assoc, ← hr]⟩
  obtain ⟨r, hr⟩ := this 48
  rw [sched, hr, ← h, List.take_left]
theorem sched_at (l : List Nat) (h : l.length = 16) (i : Nat) (h1 : 16 ≤ i) (h2 : i < 64) : (sched l).getD i 0 =
    wadd (wadd (wadd (small ((sched l).getD (i - 2) 0) 17 19 10) ((sched l).getD (i - 7) 0)) (small ((sched l).getD (i - 15) 0) 7 18 3)) ((sched l).getD (i - 16) 0) := by
  obtain ⟨n, rfl⟩ : ∃ n, i = 16 + n := ⟨i - 16, by omega⟩
  have hl := schedL_len l h n
  have low : ∀ j, j < 16 + n → (sched l).getD j 0 = (schedL l n).getD j 0 := by
    intro j hj
    have := schedL_low l h n j hj (48 - n)
    rw [show n + (48 - n) = 48 by omega] at this
    exact this
  have top : (sched l).getD (16 + n) 0 = nextW (schedL l n) := by
    have := schedL_low l h (n + 1) (16 + n) (by omega) (48 - (n + 1))
    rw [show n + 1 + (48 - (n + 1)) = 48 by omega] at this
    refine Eq.trans this ?_
    rw [schedL, getD_right _ _ _ (by omega), hl, Nat.sub_self, List.getD_cons_zero]
  rw [top, low _ (by omega), low _ (by omega), low _ (by omega), low _ (by omega), nextW, hl]
theorem sched_lt (l : List Nat) (h : l.length = 16) (hl : ∀ i, l.getD i 0 < 4294967296) (i : Nat) : (sched l).getD i 0 < 4294967296 := by
  by_cases h2 : i < 64
  · by_cases h1 : 16 ≤ i
    · rw [sched_at l h i h1 h2]; exact wadd_lt _ _
    · have := schedL_low l h 0 i (by omega) 48
      rw [Nat.zero_add] at this
      have e : (sched l).getD i 0 = l.getD i 0 := this
      rw [e]; exact hl i
  · have := sched_len l h
    rw [List.getD, List.getElem?_eq_none (by omega), Option.getD_none]; decide
theorem words16_lt (l : List UInt8) (p i : Nat) : (words16 l p).getD i 0 < 4294967296 := by
  by_cases hi : i < 16
  · rw [words16_at l p i hi, wordAt]; exact wor_lt _ _
  · rw [List.getD, List.getElem?_eq_none (by rw [words16_len]; omega), Option.getD_none]; decide
end Go.Proofs.YtoekdiefbpnekaaDoor
