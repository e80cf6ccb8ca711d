/- There and back, of numbers' bytes: plain mathematics. -/
import Derived.Test.YtimhjmeebahdaaaDoorGet
import Derived.Test.YtimhjmeebahdaaaDoorFoldM
namespace Go.Proofs.YtimhjmeebahdaaaDoor
set_option linter.unusedVariables false
set_option linter.unusedSimpArgs false

/-! ### Bytes -/

theorem stB_at (l : List UInt8) (k : Nat) (h : k < l.length) : stB l k = ((l[k]).toNat % 128, decide ((l[k]).toNat < 128), true) := by simp [stB, h]
theorem stB_end (l : List UInt8) (k : Nat) (h : ¬ k < l.length) : stB l k = (0, true, false) := by simp [stB, h]

/-- The digits ahead of the last one. -/
theorem putB_eq (n : Nat) : putB n = (hiD 128 n).map (fun d => UInt8.ofNat (d + 128)) ++ [UInt8.ofNat (n % 128)] := by
  unfold putB hiD
  by_cases h : n < 128
  · simp [h]
  · simp [h]
theorem front_st (l : List UInt8) (ds : List Nat) (hds : ∀ d ∈ ds, d < 128) (rest : List UInt8) (hl : l = ds.map (fun d => UInt8.ofNat (d + 128)) ++ rest) (i : Nat) (h : i < ds.length) : stB l (0 + i) = (ds[i], false, true) := by
  have hi : i < l.length := by rw [hl]; simp; omega
  have hd := hds _ (List.getElem_mem h)
  rw [Nat.zero_add, stB_at l i hi]
  have e : l[i] = UInt8.ofNat (ds[i] + 128) := by
    subst hl
    rw [List.getElem_append_left (by simpa using h)]
    simp
  rw [e, u8_ofNat _ (by omega)]
  have e1 : (ds[i] + 128) % 128 = ds[i] := by omega
  have e2 : decide (ds[i] + 128 < 128) = false := by simp
  rw [e1, e2]

theorem get_back (n : Nat) (more : List UInt8) (hn : n ≤ 1099511627776) : getS (putB n ++ more) = some (n, (putB n).length) := by
  have hm := Nat.mod_lt n (by omega : 128 > 0)
  have hl : putB n ++ more = (hiD 128 n).map (fun d => UInt8.ofNat (d + 128)) ++ (UInt8.ofNat (n % 128) :: more) := by rw [putB_eq, List.append_assoc]; rfl
  have hlen : (putB n).length = (hiD 128 n).length + 1 := by rw [putB_eq]; simp
  unfold getS
  have hf : fold 128 0 (hiD 128 n) = n / 128 := hiD_fold 128 (by omega) n
  have e : (putB n ++ more).length + 1 = (more.length + 2) + (hiD 128 n).length := by rw [List.length_append, hlen]; omega
  rw [e, numS_front (by omega) (hiD 128 n) _ 0 0 (fun i h => front_st _ _ (fun d hd => hiD_lt 128 (by omega) n d hd) _ hl i h) (by rw [hf]; omega) (fun d r e => by have := hiD_head 128 (by omega) n d r e; omega), hf, Nat.zero_add]
  have hk : (hiD 128 n).length < (putB n ++ more).length := by rw [List.length_append, hlen]; omega
  have hst : stB (putB n ++ more) (hiD 128 n).length = (n % 128, true, true) := by
    rw [stB_at _ _ hk]
    have e2 : (putB n ++ more)[(hiD 128 n).length] = UInt8.ofNat (n % 128) := by
      simp only [hl]
      rw [List.getElem_append_right (by simp)]
      simp
    rw [e2, u8_ofNat _ (by omega)]
    have e3 : n % 128 % 128 = n % 128 := by omega
    rw [e3, decide_eq_true hm]
  have hdm := Nat.div_add_mod n 128
  rw [numS_last hst (by omega), hlen]
  congr 2
  omega

theorem get_cut (n : Nat) (hn : n ≤ 1099511627776) : getS ((putB n).take ((putB n).length - 1)) = none := by
  have hlen : (putB n).length = (hiD 128 n).length + 1 := by rw [putB_eq]; simp
  have hl : (putB n).take ((putB n).length - 1) = (hiD 128 n).map (fun d => UInt8.ofNat (d + 128)) ++ [] := by
    rw [hlen, putB_eq]
    simp
  rw [hl]
  unfold getS
  have hf : fold 128 0 (hiD 128 n) = n / 128 := hiD_fold 128 (by omega) n
  have e : ((hiD 128 n).map (fun d => UInt8.ofNat (d + 128)) ++ []).length + 1 = 1 + (hiD 128 n).length := by simp; omega
  rw [e, numS_front (by omega) (hiD 128 n) _ 0 0 (fun i h => front_st _ _ (fun d hd => hiD_lt 128 (by omega) n d hd) _ rfl i h) (by rw [hf]; omega) (fun d r e => by have := hiD_head 128 (by omega) n d r e; omega)]
  exact numS_no (by rw [stB_end _ _ (by simp)])

theorem get_inv (l : List UInt8) : ∀ (f k n r m : Nat), ((k = 0 ∧ n = 0) ∨ (1 ≤ n ∧ k ≤ l.length ∧ l.take k = (dg 128 n).map fun d => UInt8.ofNat (d + 128))) → numS 128 (stB l) f k n = some (r, m) →
    1 ≤ m ∧ m ≤ l.length ∧ r ≤ 1099511627776 ∧ l.take m = putB r := by
  intro f
  induction f with
  | zero => intro k n r m _ h; cases h
  | succ f ih =>
    intro k n r m hI h
    by_cases hk : k < l.length
    · have hst := stB_at l k hk
      have ht : l.take (k + 1) = l.take k ++ [l[k]] := List.take_succ_eq_append_getElem hk
      have hc := (l[k]).toNat_lt
      generalize hv : (l[k]).toNat = v at hst hc
      by_cases hbig : 1099511627776 < n * 128 + v % 128 ∨ (n * 128 + v % 128 = 0 ∧ decide (v < 128) = false)
      · simp only [numS, hst] at h
        rw [if_neg (by simp), if_pos hbig] at h
        cases h
      · have hle : n * 128 + v % 128 ≤ 1099511627776 := by
          rcases Nat.lt_or_ge 1099511627776 (n * 128 + v % 128) with h1 | h1
          · exact absurd (.inl h1) hbig
          · exact h1
        by_cases hlast : v < 128
        · rw [decide_eq_true hlast] at hst
          rw [numS_last hst hle] at h
          injection h with h
          injection h with h1 h2
          subst h1; subst h2
          refine ⟨by omega, by omega, hle, ?_⟩
          rw [ht, ofNat_toNat_eq _ _ hv]
          have hm : v % 128 = v := Nat.mod_eq_of_lt hlast
          rw [hm]
          rcases hI with ⟨rfl, rfl⟩ | ⟨hn1, _, htk⟩
          · simp [putB, hlast, hm]
          · rw [htk, putB, if_neg (by omega)]
            have e1 : (n * 128 + v) / 128 = n := by omega
            have e2 : (n * 128 + v) % 128 = v := by omega
            rw [e1, e2]
        · rw [decide_eq_false hlast] at hst
          have hne : n * 128 + v % 128 ≠ 0 := fun h0 => hbig (.inr ⟨h0, decide_eq_false hlast⟩)
          rw [numS_more hst hle hne] at h
          refine ih (k + 1) _ r m (.inr ⟨by omega, by omega, ?_⟩) h
          have e : v = v % 128 + 128 := by omega
          have hc2 : l[k] = UInt8.ofNat (v % 128 + 128) := (ofNat_toNat_eq _ _ hv).trans (congrArg UInt8.ofNat e)
          rw [ht, hc2]
          rcases hI with ⟨rfl, rfl⟩ | ⟨hn1, _, htk⟩
          · rw [dg_small (by omega), Nat.zero_mul, Nat.zero_add, List.take_zero]; rfl
          · rw [htk, dg_step 128 n (v % 128) (by omega) (Nat.mod_lt _ (by omega)) hn1, List.map_append]; rfl
    · rw [numS_no (by rw [stB_end _ _ hk])] at h
      cases h

/-- What is read of any bytes has those that it was read of. -/
theorem get_is (l : List UInt8) (y k : Nat) (h : getS l = some (y, k)) : 1 ≤ k ∧ k ≤ l.length ∧ y ≤ 1099511627776 ∧ l.take k = putB y := get_inv l _ 0 0 y k (.inl ⟨rfl, rfl⟩) h


end Go.Proofs.YtimhjmeebahdaaaDoor
