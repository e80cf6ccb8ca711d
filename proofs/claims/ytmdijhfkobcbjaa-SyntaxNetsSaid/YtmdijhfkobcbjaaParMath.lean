/- There and back, of decimals: plain mathematics. -/
import Derived.Test.YtmdijhfkobcbjaaParse
import Derived.Test.YtmdijhfkobcbjaaOrdMath
namespace Go.Proofs.Ytmdijhfkobcbjaa
set_option linter.unusedVariables false
set_option linter.unusedSimpArgs false

theorem numS_no {b : Nat} {st : Nat → Nat × Bool × Bool} {f k n : Nat} (h : (st k).2.2 = false) : numS b st (f + 1) k n = none := by
  simp [numS, h]
theorem numS_last {b : Nat} {st : Nat → Nat × Bool × Bool} {f k n d : Nat} (h : st k = (d, true, true)) (hm : n * b + d ≤ 1099511627776) : numS b st (f + 1) k n = some (n * b + d, k + 1) := by
  simp [numS, h]; omega
theorem numS_more {b : Nat} {st : Nat → Nat × Bool × Bool} {f k n d : Nat} (h : st k = (d, false, true)) (hm : n * b + d ≤ 1099511627776) (h0 : n * b + d ≠ 0) : numS b st (f + 1) k n = numS b st f (k + 1) (n * b + d) := by
  simp only [numS, h]
  rw [if_neg (by simp), if_neg (by rintro (h1 | ⟨h1, _⟩); omega; exact h0 h1), if_neg (by simp)]

theorem numS_big' {b : Nat} {st : Nat → Nat × Bool × Bool} {f k n d : Nat} {last : Bool} (h : st k = (d, last, true)) (hm : 1099511627776 < n * b + d) : numS b st (f + 1) k n = none := by
  simp only [numS, h]
  rw [if_neg (by simp), if_pos (.inl hm)]
theorem numS_zero' {b : Nat} {st : Nat → Nat × Bool × Bool} {f k n d : Nat} (h : st k = (d, false, true)) (hm : n * b + d = 0) : numS b st (f + 1) k n = none := by
  simp [numS, h, hm]

/-- What digits come to. -/
def fold (b n : Nat) (ds : List Nat) : Nat := ds.foldl (fun n d => n * b + d) n
theorem fold_le (b : Nat) (hb : 1 ≤ b) : ∀ (ds : List Nat) (n : Nat), n ≤ fold b n ds := by
  intro ds
  induction ds with
  | nil => intro n; exact Nat.le_refl _
  | cons d ds ih =>
    intro n
    have h1 := ih (n * b + d)
    have h2 : n ≤ n * b := Nat.le_mul_of_pos_right n hb
    exact Nat.le_trans (by omega) h1
theorem fold_snoc (b n : Nat) (ds : List Nat) (d : Nat) : fold b n (ds ++ [d]) = fold b n ds * b + d := by simp [fold]
theorem fold_dg (b : Nat) (hb : 2 ≤ b) : ∀ n, fold b 0 (dg b n) = n := by
  intro n
  induction n using Nat.strongRecOn with
  | ind n ih =>
    by_cases h : n < b
    · rw [dg_small h]; simp [fold]
    · rw [dg_big hb h, fold_snoc, ih (n / b) (Nat.div_lt_self (by omega) (by omega))]
      have := Nat.div_add_mod n b
      rw [Nat.mul_comm]; omega

theorem numS_front {b : Nat} (hb : 1 ≤ b) {st : Nat → Nat × Bool × Bool} : ∀ (ds : List Nat) (f k n : Nat), (∀ i, (h : i < ds.length) → st (k + i) = (ds[i], false, true)) → fold b n ds ≤ 1099511627776 →
    (∀ d r, ds = d :: r → n * b + d ≠ 0) → numS b st (f + ds.length) k n = numS b st f (k + ds.length) (fold b n ds) := by
  intro ds
  induction ds with
  | nil => intro f k n _ _ _; rfl
  | cons d ds ih =>
    intro f k n hst hle h0
    have hs0 := hst 0 (by simp)
    have hle2 : n * b + d ≤ 1099511627776 := Nat.le_trans (fold_le b hb ds _) hle
    have hne := h0 d ds rfl
    have e : f + (d :: ds).length = (f + ds.length) + 1 := by simp; omega
    rw [e, numS_more (by simpa using hs0) hle2 hne, ih f (k + 1) (n * b + d)]
    · have e2 : k + 1 + ds.length = k + (d :: ds).length := by simp; omega
      rw [e2]; rfl
    · intro i hi
      have := hst (i + 1) (by simp; omega)
      have e3 : k + (i + 1) = k + 1 + i := by omega
      rw [e3] at this
      simpa using this
    · exact hle
    · intro d' r _
      have : 1 * b ≤ (n * b + d) * b := Nat.mul_le_mul_right b (by omega)
      omega

theorem fold_pos {b n d : Nat} {r : List Nat} (e : dg b n = d :: r) (hb : 2 ≤ b) (hn : 0 < n) : d ≠ 0 := by
  obtain ⟨d', r', e', h⟩ := dg_head' b hb n hn
  rw [e] at e'
  injection e' with e1 _
  rw [e1]; exact h

def hiD (b n : Nat) : List Nat := if n < b then [] else dg b (n / b)
theorem hiD_lt (b : Nat) (hb : 2 ≤ b) (n d : Nat) (h : d ∈ hiD b n) : d < b := by
  unfold hiD at h
  by_cases hn : n < b
  · simp [hn] at h
  · rw [if_neg hn] at h
    exact dg_lt b hb _ d h
theorem hiD_fold (b : Nat) (hb : 2 ≤ b) (n : Nat) : fold b 0 (hiD b n) = n / b := by
  unfold hiD
  by_cases hn : n < b
  · simp [hn, fold, Nat.div_eq_of_lt hn]
  · rw [if_neg hn, fold_dg b hb]
theorem hiD_head (b : Nat) (hb : 2 ≤ b) (n d : Nat) (r : List Nat) (e : hiD b n = d :: r) : d ≠ 0 := by
  unfold hiD at e
  by_cases hn : n < b
  · simp [hn] at e
  · rw [if_neg hn] at e
    exact fold_pos e hb (Nat.div_pos (by omega) (by omega))

theorem dg_step (b n d : Nat) (hb : 2 ≤ b) (hd : d < b) (hn : 1 ≤ n) : dg b (n * b + d) = dg b n ++ [d] := by
  have h1 : 1 * b ≤ n * b := Nat.mul_le_mul_right b hn
  have h2 : (n * b + d) / b = n := by rw [Nat.mul_comm, Nat.mul_add_div (by omega), Nat.div_eq_of_lt hd]; omega
  have h3 : (n * b + d) % b = d := by rw [Nat.mul_comm, Nat.mul_add_mod]; exact Nat.mod_eq_of_lt hd
  rw [dg_big hb (by omega), h2, h3]

theorem ofNat_toNat_eq (c : UInt8) (d : Nat) (h : c.toNat = d) : c = UInt8.ofNat d := by rw [← h]; simp

/-! ### Decimals -/

theorem stP_at (s : ByteArray) (k : Nat) (h : k < s.size) : stP s k = ((s[k]).toNat - 48, decide (k + 1 = s.size), decide (48 ≤ (s[k]).toNat ∧ (s[k]).toNat ≤ 57)) := by simp [stP, h]
theorem stP_end (s : ByteArray) (k : Nat) (h : ¬ k < s.size) : stP s k = (0, true, false) := by simp [stP, h]

theorem bs_at (l : List UInt8) (k : Nat) (h : k < (bs l).size) (h' : k < l.length) : (bs l)[k] = l[k] := by
  show (bs l).data[k] = _
  simp [bs]

theorem decB_eq (n : Nat) : decB n = (hiD 10 n).map (fun d => UInt8.ofNat (d + 48)) ++ [UInt8.ofNat (n % 10 + 48)] := by
  unfold decB hiD
  by_cases h : n < 10
  · rw [dg_small h, if_pos h, Nat.mod_eq_of_lt h]; rfl
  · rw [dg_big (by omega) h, if_neg h, List.map_append]; rfl

theorem parse_back (n : Nat) (hn : n ≤ 1099511627776) : ∃ k, parseS (bs (decB n)) = some (n, k) := by
  have hm := Nat.mod_lt n (by omega : 10 > 0)
  have hlen : (decB n).length = (hiD 10 n).length + 1 := by rw [decB_eq]; simp
  have hsz : (bs (decB n)).size = (hiD 10 n).length + 1 := by rw [bs_size, hlen]
  have hf : fold 10 0 (hiD 10 n) = n / 10 := hiD_fold 10 (by omega) n
  unfold parseS
  have e : (bs (decB n)).size + 1 = 2 + (hiD 10 n).length := by rw [hsz]; omega
  refine ⟨(hiD 10 n).length + 1, ?_⟩
  rw [e, numS_front (by omega) (hiD 10 n) _ 0 0 ?_ (by rw [hf]; omega) (fun d r e => by have := hiD_head 10 (by omega) n d r e; omega), hf, Nat.zero_add]
  · have hk : (hiD 10 n).length < (bs (decB n)).size := by omega
    have hst : stP (bs (decB n)) (hiD 10 n).length = (n % 10, true, true) := by
      rw [stP_at _ _ hk]
      have e2 : (bs (decB n))[(hiD 10 n).length] = UInt8.ofNat (n % 10 + 48) := by
        refine (bs_at _ _ hk (by omega)).trans ?_
        have := decB_eq n
        simp only [this]
        rw [List.getElem_append_right (by simp)]
        simp
      rw [e2, u8_ofNat _ (by omega), hsz]
      have e3 : n % 10 + 48 - 48 = n % 10 := by omega
      rw [e3, decide_eq_true rfl, decide_eq_true ⟨by omega, by omega⟩]
    have hdm := Nat.div_add_mod n 10
    rw [numS_last hst (by omega)]
    congr 2
    omega
  · intro i hi
    have hd := hiD_lt 10 (by omega) n _ (List.getElem_mem hi)
    have hi2 : i < (bs (decB n)).size := by omega
    rw [Nat.zero_add, stP_at _ i hi2]
    have e2 : (bs (decB n))[i] = UInt8.ofNat ((hiD 10 n)[i] + 48) := by
      refine (bs_at _ _ hi2 (by omega)).trans ?_
      have := decB_eq n
      simp only [this]
      rw [List.getElem_append_left (by simpa using hi)]
      simp
    rw [e2, u8_ofNat _ (by omega), hsz]
    have e3 : (hiD 10 n)[i] + 48 - 48 = (hiD 10 n)[i] := by omega
    rw [e3, decide_eq_false (by omega), decide_eq_true ⟨by omega, by omega⟩]

theorem par_inv (s : ByteArray) : ∀ (f k n r m : Nat), ((k = 0 ∧ n = 0) ∨ (1 ≤ n ∧ k ≤ s.size ∧ s.data.toList.take k = decB n)) → numS 10 (stP s) f k n = some (r, m) →
    r ≤ 1099511627776 ∧ s.data.toList = decB r := by
  intro f
  induction f with
  | zero => intro k n r m _ h; cases h
  | succ f ih =>
    intro k n r m hI h
    by_cases hk : k < s.size
    · have hst := stP_at s k hk
      have hk2 : k < s.data.toList.length := hk
      have ht : s.data.toList.take (k + 1) = s.data.toList.take k ++ [s.data.toList[k]] := List.take_succ_eq_append_getElem hk2
      have hsk : s.data.toList[k] = s[k] := by
        show s.data.toList[k] = s.data[k]
        simp
      rw [hsk] at ht
      generalize hv : (s[k]).toNat = v at hst
      by_cases hdig : 48 ≤ v ∧ v ≤ 57
      · rw [decide_eq_true hdig] at hst
        have hc : s[k] = UInt8.ofNat ((v - 48) + 48) := by rw [ofNat_toNat_eq _ _ hv]; congr 1; omega
        rw [hc] at ht
        by_cases hbig : 1099511627776 < n * 10 + (v - 48) ∨ (n * 10 + (v - 48) = 0 ∧ decide (k + 1 = s.size) = false)
        · simp only [numS, hst] at h
          rw [if_neg (by simp), if_pos hbig] at h
          cases h
        · have hle : n * 10 + (v - 48) ≤ 1099511627776 := by
            rcases Nat.lt_or_ge 1099511627776 (n * 10 + (v - 48)) with h1 | h1
            · exact absurd (.inl h1) hbig
            · exact h1
          have hnew : s.data.toList.take (k + 1) = decB (n * 10 + (v - 48)) := by
            rw [ht]
            rcases hI with ⟨rfl, rfl⟩ | ⟨hn1, _, htk⟩
            · rw [decB, dg_small (by omega)]; simp
            · rw [htk, decB, decB, dg_step 10 n (v - 48) (by omega) (by omega) hn1, List.map_append]; rfl
          by_cases hlast : k + 1 = s.size
          · rw [decide_eq_true hlast] at hst
            rw [numS_last hst hle] at h
            injection h with h
            injection h with h1 h2
            subst h1
            refine ⟨hle, ?_⟩
            rw [← hnew, List.take_of_length_le]
            show s.size ≤ k + 1
            omega
          · rw [decide_eq_false hlast] at hst
            have hne : n * 10 + (v - 48) ≠ 0 := fun h0 => hbig (.inr ⟨h0, decide_eq_false hlast⟩)
            rw [numS_more hst hle hne] at h
            exact ih (k + 1) _ r m (.inr ⟨by omega, by omega, hnew⟩) h
      · rw [decide_eq_false hdig] at hst
        rw [numS_no (by rw [hst])] at h
        cases h
    · rw [numS_no (by rw [stP_end _ _ hk])] at h
      cases h

theorem parse_is (s : ByteArray) (z k : Nat) (h : parseS s = some (z, k)) : z ≤ 1099511627776 ∧ s = bs (decB z) := by
  obtain ⟨h1, h2⟩ := par_inv s _ 0 0 z k (.inl ⟨rfl, rfl⟩) h
  refine ⟨h1, ?_⟩
  rw [← h2]
  cases s; simp [bs]

end Go.Proofs.Ytmdijhfkobcbjaa
