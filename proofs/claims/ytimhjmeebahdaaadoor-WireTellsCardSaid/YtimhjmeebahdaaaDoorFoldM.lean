/- Numbers of their digits, the highest first: plain mathematics. -/
import Derived.Test.YtimhjmeebahdaaaDoorNumb
import Derived.Test.YtimhjmeebahdaaaDoorOrdMath
namespace Go.Proofs.YtimhjmeebahdaaaDoor
set_option linter.unusedVariables false
set_option linter.unusedSimpArgs false

theorem numS_no {b : Nat} {st : Nat → Nat × Bool × Bool} {f k n : Nat} (h : (st k).2.2 = false) : numS b st (f + 1) k n = none := by
  simp [numS, h]
theorem numS_last {b : Nat} {st : Nat → Nat × Bool × Bool} {f k n d : Nat} (h : st k = (d, true, true)) (hm : n * b + d ≤ 1099511627776) : numS b st (f + 1) k n = some (n * b + d, k + 1) := by
  simp [numS, h]; omega
theorem numS_more {b : Nat} {st : Nat → Nat × Bool × Bool} {f k n d : Nat} (h : st k = (d, false, true)) (hm : n * b + d ≤ 1099511627776) (h0 : n * b + d ≠ 0) : numS b st (f + 1) k n = numS b st f (k + 1) (n * b + d) := by
  simp only [numS, h]
  rw [if_neg (by simp), if_neg (by rintro (h1 | ⟨h1, _⟩); omega; exact h0 h1), if_neg (by simp)]

theorem numS_big' {b : Nat} {st : Nat → Nat × Bool × Bool} {f k n d : Nat} {last : Bool} (h : st k = (d, last, true)) (hm : 1099511627776 < n * b + d) : numS b st (f + 1) k n = none := by
  simp only [numS, h]
  rw [if_neg (by simp), if_pos (.inl hm)]
theorem numS_zero' {b : Nat} {st : Nat → Nat × Bool × Bool} {f k n d : Nat} (h : st k = (d, false, true)) (hm : n * b + d = 0) : numS b st (f + 1) k n = none := by
  simp [numS, h, hm]

/-- What digits come to. -/
def fold (b n : Nat) (ds : List Nat) : Nat := ds.foldl (fun n d => n * b + d) n
theorem fold_le (b : Nat) (hb : 1 ≤ b) : ∀ (ds : List Nat) (n : Nat), n ≤ fold b n ds := by
  intro ds
  induction ds with
  | nil => intro n; exact Nat.le_refl _
  | cons d ds ih =>
    intro n
    have h1 := ih (n * b + d)
    have h2 : n ≤ n * b := Nat.le_mul_of_pos_right n hb
    exact Nat.le_trans (by omega) h1
theorem fold_snoc (b n : Nat) (ds : List Nat) (d : Nat) : fold b n (ds ++ [d]) = fold b n ds * b + d := by simp [fold]
theorem fold_dg (b : Nat) (hb : 2 ≤ b) : ∀ n, fold b 0 (dg b n) = n := by
  intro n
  induction n using Nat.strongRecOn with
  | ind n ih =>
    by_cases h : n < b
    · rw [dg_small h]; simp [fold]
    · rw [dg_big hb h, fold_snoc, ih (n / b) (Nat.div_lt_self (by omega) (by omega))]
      have := Nat.div_add_mod n b
      rw [Nat.mul_comm]; omega

theorem numS_front {b : Nat} (hb : 1 ≤ b) {st : Nat → Nat × Bool × Bool} : ∀ (ds : List Nat) (f k n : Nat), (∀ i, (h : i < ds.length) → st (k + i) = (ds[i], false, true)) → fold b n ds ≤ 1099511627776 →
    (∀ d r, ds = d :: r → n * b + d ≠ 0) → numS b st (f + ds.length) k n = numS b st f (k + ds.length) (fold b n ds) := by
  intro ds
  induction ds with
  | nil => intro f k n _ _ _; rfl
  | cons d ds ih =>
    intro f k n hst hle h0
    have hs0 := hst 0 (by simp)
    have hle2 : n * b + d ≤ 1099511627776 := Nat.le_trans (fold_le b hb ds _) hle
    have hne := h0 d ds rfl
    have e : f + (d :: ds).length = (f + ds.length) + 1 := by simp; omega
    rw [e, numS_more (by simpa using hs0) hle2 hne, ih f (k + 1) (n * b + d)]
    · have e2 : k + 1 + ds.length = k + (d :: ds).length := by simp; omega
      rw [e2]; rfl
    · intro i hi
      have := hst (i + 1) (by simp; omega)
      have e3 : k + (i + 1) = k + 1 + i := by omega
      rw [e3] at this
      simpa using this
    · exact hle
    · intro d' r _
      have : 1 * b ≤ (n * b + d) * b := Nat.mul_le_mul_right b (by omega)
      omega

theorem fold_pos {b n d : Nat} {r : List Nat} (e : dg b n = d :: r) (hb : 2 ≤ b) (hn : 0 < n) : d ≠ 0 := by
  obtain ⟨d', r', e', h⟩ := dg_head' b hb n hn
  rw [e] at e'
  injection e' with e1 _
  rw [e1]; exact h

def hiD (b n : Nat) : List Nat := if n < b then [] else dg b (n / b)
theorem hiD_lt (b : Nat) (hb : 2 ≤ b) (n d : Nat) (h : d ∈ hiD b n) : d < b := by
  unfold hiD at h
  by_cases hn : n < b
  · simp [hn] at h
  · rw [if_neg hn] at h
    exact dg_lt b hb _ d h
theorem hiD_fold (b : Nat) (hb : 2 ≤ b) (n : Nat) : fold b 0 (hiD b n) = n / b := by
  unfold hiD
  by_cases hn : n < b
  · simp [hn, fold, Nat.div_eq_of_lt hn]
  · rw [if_neg hn, fold_dg b hb]
theorem hiD_head (b : Nat) (hb : 2 ≤ b) (n d : Nat) (r : List Nat) (e : hiD b n = d :: r) : d ≠ 0 := by
  unfold hiD at e
  by_cases hn : n < b
  · simp [hn] at e
  · rw [if_neg hn] at e
    exact fold_pos e hb (Nat.div_pos (by omega) (by omega))

theorem dg_step (b n d : Nat) (hb : 2 ≤ b) (hd : d < b) (hn : 1 ≤ n) : dg b (n * b + d) = dg b n ++ [d] := by
  have h1 : 1 * b ≤ n * b := Nat.mul_le_mul_right b hn
  have h2 : (n * b + d) / b = n := by rw [Nat.mul_comm, Nat.mul_add_div (by omega), Nat.div_eq_of_lt hd]; omega
  have h3 : (n * b + d) % b = d := by rw [Nat.mul_comm, Nat.mul_add_mod]; exact Nat.mod_eq_of_lt hd
  rw [dg_big hb (by omega), h2, h3]

theorem ofNat_toNat_eq (c : UInt8) (d : Nat) (h : c.toNat = d) : c = UInt8.ofNat d := by rw [← h]; simp

end Go.Proofs.YtimhjmeebahdaaaDoor
