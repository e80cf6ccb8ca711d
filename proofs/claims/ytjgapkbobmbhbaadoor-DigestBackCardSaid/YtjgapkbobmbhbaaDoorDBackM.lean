/- Which digits are some bytes': all of them, two and two. Nothing of the program is named here. -/
import Derived.Test.YtjgapkbobmbhbaaDoorHexMath
namespace Go.Proofs.YtjgapkbobmbhbaaDoor
set_option linter.unusedVariables false
set_option linter.unusedSimpArgs false

theorem unhexB_iff : ∀ s, (unhexB s).isSome = (decide (s.length % 2 = 0) && s.all fun c => (val c).isSome)
  | [] => rfl
  | [c] => by rw [unhexB]; simp
  | a :: b :: r => by
    have ih := unhexB_iff r
    have hl : (a :: b :: r).length % 2 = r.length % 2 := by simp only [List.length_cons]; omega
    rw [hl, List.all_cons, List.all_cons, unhexB]
    cases ha : val a with
    | none => simp
    | some x =>
      cases hb : val b with
      | none => simp
      | some y =>
        cases hr : unhexB r with
        | none => rw [hr] at ih; simpa using ih
        | some t => rw [hr] at ih; simpa using ih
theorem hexB_all (l : List UInt8) : ∀ c ∈ hexB l, (val c).isSome = true := by
  have h := unhexB_iff (hexB l)
  rw [unhexB_hexB] at h
  have h2 : ((hexB l).all fun c => (val c).isSome) = true := by
    simp only [Option.isSome_some] at h
    exact (Bool.and_eq_true _ _ ▸ h.symm).2
  exact fun c hc => List.all_eq_true.1 h2 c hc
/-- One digit of some bytes' is another sign: they are some bytes' still just if that is a digit. -/
theorem unhexB_turned (l : List UInt8) (k : Nat) (c : UInt8) (hk : k < (hexB l).length) : (unhexB ((hexB l).take k ++ [c] ++ (hexB l).drop (k + 1))).isSome = (val c).isSome := by
  have hl := hexB_len l
  rw [unhexB_iff]
  have h1 : ((hexB l).take k ++ [c] ++ (hexB l).drop (k + 1)).length % 2 = 0 := by
    rw [List.length_append, List.length_append, List.length_take, List.length_drop, List.length_singleton]; omega
  have h2 : ((hexB l).take k).all (fun c => (val c).isSome) = true := List.all_eq_true.2 fun x hx => hexB_all l x (List.mem_of_mem_take hx)
  have h3 : ((hexB l).drop (k + 1)).all (fun c => (val c).isSome) = true := List.all_eq_true.2 fun x hx => hexB_all l x (List.mem_of_mem_drop hx)
  rw [List.all_append, List.all_append, h2, h3, decide_eq_true h1]
  simp
theorem unhexB_tail (l : List UInt8) (h : 0 < l.length) : unhexB ((hexB l).drop 1) = none := by
  apply unhexB_odd
  rw [List.length_drop, hexB_len]; omega
/-- Is it a digit? In the law's own tests. -/
theorem val_isSome (c : UInt8) : (val c).isSome = ((decide (48 ≤ c.toNat) && decide (c.toNat ≤ 57)) || (decide (97 ≤ c.toNat) && decide (c.toNat ≤ 102))) := by
  unfold val
  by_cases h1 : 48 ≤ c.toNat ∧ c.toNat ≤ 57
  · simp [h1]
  · rw [if_neg h1]
    by_cases h2 : 97 ≤ c.toNat ∧ c.toNat ≤ 102
    · simp [h2]
    · rw [if_neg h2]
      simp only [Option.isSome_none]
      symm
      rw [Bool.or_eq_false_iff]
      constructor <;> (rw [Bool.and_eq_false_iff]; simp only [decide_eq_false_iff_not]; omega)
end Go.Proofs.YtjgapkbobmbhbaaDoor
