/- What a number's bytes are like: plain mathematics. -/
import Derived.Test.YtmonemmeccgldaaDigMath
namespace Go.Proofs.Ytmonemmeccgldaa
set_option linter.unusedVariables false
set_option linter.unusedSimpArgs false

theorem dg_head (b : Nat) (hb : 2 ≤ b) : ∀ n : Nat, 0 < n → ∃ d r, dg b n = d :: r ∧ d ≠ 0 := by
  intro n
  induction n using Nat.strongRecOn with
  | ind n ih =>
    intro hn
    rw [dg]
    by_cases h : b < 2 ∨ n < b
    · rw [dif_pos h]; exact ⟨n, [], rfl, by omega⟩
    · rw [dif_neg h]
      obtain ⟨d, r, e, hd⟩ := ih (n / b) (Nat.div_lt_self (by omega) (by omega)) (Nat.div_pos (by omega) (by omega))
      exact ⟨d, r ++ [n % b], by rw [e]; rfl, hd⟩

/-- All bytes but the last one are marked. -/
theorem putB_mark (n i : Nat) (h : i < (putB n).length) : (128 ≤ ((putB n)[i]).toNat) ↔ i < (putB n).length - 1 := by
  unfold putB at h ⊢
  generalize hF : (if n < 128 then [] else (dg 128 (n / 128)).map fun d => UInt8.ofNat (d + 128)) = F at h ⊢
  have hall : ∀ c ∈ F, 128 ≤ c.toNat := by
    intro c hc
    rw [← hF] at hc
    by_cases hn : n < 128
    · rw [if_pos hn] at hc; cases hc
    · rw [if_neg hn] at hc
      obtain ⟨d, hd, rfl⟩ := List.mem_map.1 hc
      have := dg_lt 128 (by omega) _ d hd
      rw [u8_ofNat _ (by omega)]; omega
  rw [List.length_append] at h ⊢
  simp only [List.length_cons, List.length_nil] at h ⊢
  by_cases hi : i < F.length
  · rw [List.getElem_append_left hi]
    have := hall _ (List.getElem_mem hi)
    omega
  · have e : i = F.length := by omega
    subst e
    rw [List.getElem_append_right (Nat.le_refl _)]
    have := Nat.mod_lt n (by omega : 128 > 0)
    simp only [Nat.sub_self, List.getElem_cons_zero]
    rw [u8_ofNat _ (by omega)]; omega

/-- Where there are two bytes or more, the first one is no 128. -/
theorem putB_first (n : Nat) (h0 : 0 < (putB n).length) (h : (putB n).length ≠ 1) : ((putB n)[0]).toNat ≠ 128 := by
  unfold putB at h h0 ⊢
  by_cases hn : n < 128
  · simp [hn] at h
  · obtain ⟨d, r, e, hd⟩ := dg_head 128 (by omega) (n / 128) (Nat.div_pos (by omega) (by omega))
    have hlt := dg_lt 128 (by omega) (n / 128) d (by rw [e]; simp)
    simp only [if_neg hn, e, List.map_cons, List.cons_append, List.getElem_cons_zero]
    rw [u8_ofNat _ (by omega)]; omega

end Go.Proofs.Ytmonemmeccgldaa
