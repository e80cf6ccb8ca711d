/- Frames, told and cut: plain mathematics. -/
import Derived.Lib.Hide
namespace Go.Proofs.Ytndamiocmdnenaa
set_option linter.unusedVariables false
set_option maxRecDepth 100000
set_option linter.unusedSimpArgs false

/-- May a frame begin so? -/
def begB : List UInt8 → Bool
  | [] => true
  | [m] => m.toNat == 170
  | m :: n :: _ => m.toNat == 170 && (decide (0 < n.toNat) && decide (n.toNat ≤ 200))
/-- How many bytes the first frame has, if it is all there; else 0. -/
def lenF : List UInt8 → Nat
  | m :: n :: r => if m.toNat = 170 ∧ 0 < n.toNat ∧ n.toNat ≤ 200 ∧ n.toNat ≤ r.length then n.toNat + 2 else 0
  | _ => 0
/-- What the first frame has. -/
def partF (b : List UInt8) : List UInt8 := (b.take (lenF b)).drop 2
/-- May a frame have that? -/
def fineB (l : List UInt8) : Bool := decide (0 < l.length) && decide (l.length ≤ 200)
def putF (l : List UInt8) : List UInt8 := if fineB l = true then 170 :: UInt8.ofNat l.length :: l else []
/-- Frames, one behind the other. -/
def joinF (L : List (List UInt8)) : List UInt8 := (L.map putF).flatten
def cutN : Nat → List UInt8 → List (List UInt8)
  | 0, _ => []
  | k + 1, b => if lenF b = 0 then [] else partF b :: cutN k (b.drop (lenF b))
/-- What all frames have that bytes begin with. -/
def cutF (b : List UInt8) : List (List UInt8) := cutN b.length b
/-- How many bytes these frames are. -/
def doneF (b : List UInt8) : Nat := (joinF (cutF b)).length
/-- What is left behind them. -/
def restF (b : List UInt8) : List UInt8 := b.drop (doneF b)

theorem fine_iff (l : List UInt8) : fineB l = true ↔ 0 < l.length ∧ l.length ≤ 200 := by unfold fineB; simp
theorem put_len (l : List UInt8) (h : fineB l = true) : (putF l).length = l.length + 2 := by unfold putF; rw [if_pos h]; rfl
theorem put_none (l : List UInt8) (h : fineB l = false) : putF l = [] := by unfold putF; rw [h]; rfl
theorem put_len_le (l : List UInt8) : (putF l).length ≤ l.length + 2 := by
  cases h : fineB l with
  | true => exact Nat.le_of_eq (put_len l h)
  | false => rw [put_none l h]; exact Nat.zero_le _
theorem join_nil : joinF [] = [] := rfl
theorem join_cons (l : List UInt8) (L : List (List UInt8)) : joinF (l :: L) = putF l ++ joinF L := rfl
theorem join_app (L M : List (List UInt8)) : joinF (L ++ M) = joinF L ++ joinF M := by unfold joinF; rw [List.map_append, List.flatten_append]
theorem join_snoc (L : List (List UInt8)) (l : List UInt8) : joinF (L ++ [l]) = joinF L ++ putF l := by rw [join_app, join_cons, join_nil, List.append_nil]

theorem len_two (m n : UInt8) (r : List UInt8) : lenF (m :: n :: r) = if m.toNat = 170 ∧ 0 < n.toNat ∧ n.toNat ≤ 200 ∧ n.toNat ≤ r.length then n.toNat + 2 else 0 := rfl
theorem len_le (b : List UInt8) : lenF b ≤ b.length := by
  match b with
  | [] => exact Nat.zero_le _
  | [m] => exact Nat.zero_le _
  | m :: n :: r =>
    rw [len_two, List.length_cons, List.length_cons]
    by_cases hc : m.toNat = 170 ∧ 0 < n.toNat ∧ n.toNat ≤ 200 ∧ n.toNat ≤ r.length
    · rw [if_pos hc]; omega
    · rw [if_neg hc]; omega
theorem len_put (l r : List UInt8) (h : fineB l = true) : lenF (putF l ++ r) = l.length + 2 := by
  obtain ⟨h0, h2⟩ := (fine_iff l).1 h
  unfold putF
  rw [if_pos h]
  show lenF (170 :: UInt8.ofNat l.length :: (l ++ r)) = _
  have e : (UInt8.ofNat l.length).toNat = l.length := by rw [UInt8.toNat_ofNat']; omega
  rw [len_two, e, if_pos ⟨rfl, h0, h2, by rw [List.length_append]; omega⟩]
theorem part_put (l r : List UInt8) (h : fineB l = true) : partF (putF l ++ r) = l := by
  unfold partF
  rw [len_put l r h]
  unfold putF
  rw [if_pos h]
  show ((170 :: UInt8.ofNat l.length :: (l ++ r)).take (l.length + 2)).drop 2 = l
  simp
/-- A first frame that is all there. -/
theorem len_pos (b : List UInt8) (h : lenF b ≠ 0) : fineB (partF b) = true ∧ lenF b = (partF b).length + 2 ∧ b = putF (partF b) ++ b.drop (lenF b) := by
  match b, h with
  | m :: n :: r, h =>
    unfold partF
    have hl : lenF (m :: n :: r) = if m.toNat = 170 ∧ 0 < n.toNat ∧ n.toNat ≤ 200 ∧ n.toNat ≤ r.length then n.toNat + 2 else 0 := rfl
    rw [hl] at h ⊢
    by_cases hc : m.toNat = 170 ∧ 0 < n.toNat ∧ n.toNat ≤ 200 ∧ n.toNat ≤ r.length
    · rw [if_pos hc]
      obtain ⟨hm, h0, h2, hr⟩ := hc
      have ep : ((m :: n :: r).take (n.toNat + 2)).drop 2 = r.take n.toNat := by simp
      have ed : (m :: n :: r).drop (n.toNat + 2) = r.drop n.toNat := by simp
      rw [ep, ed]
      have el : (r.take n.toNat).length = n.toNat := by rw [List.length_take]; omega
      have hf : fineB (r.take n.toNat) = true := by rw [fine_iff, el]; exact ⟨h0, h2⟩
      refine ⟨hf, by rw [el], ?_⟩
      unfold putF
      rw [if_pos hf, el]
      have e1 : m = 170 := UInt8.toNat_inj.1 (by rw [hm]; rfl)
      have e2 : UInt8.ofNat n.toNat = n := by simp
      rw [e1, e2]
      simp
    · rw [if_neg hc] at h; exact absurd rfl h
  | [], h => exact absurd rfl h
  | [m], h => exact absurd rfl h
theorem len_ge (b : List UInt8) (h : lenF b ≠ 0) : 3 ≤ lenF b := by
  obtain ⟨h1, h2, _⟩ := len_pos b h
  have := ((fine_iff _).1 h1).1
  omega
theorem len_beg (b : List UInt8) (h : lenF b ≠ 0) : begB b = true := by
  match b, h with
  | m :: n :: r, h =>
    have hl : lenF (m :: n :: r) = if m.toNat = 170 ∧ 0 < n.toNat ∧ n.toNat ≤ 200 ∧ n.toNat ≤ r.length then n.toNat + 2 else 0 := rfl
    rw [hl] at h
    by_cases hc : m.toNat = 170 ∧ 0 < n.toNat ∧ n.toNat ≤ 200 ∧ n.toNat ≤ r.length
    · unfold begB; simp [hc.1, hc.2.1, hc.2.2.1]
    · rw [if_neg hc] at h; exact absurd rfl h
  | [], h => exact absurd rfl h
  | [m], h => exact absurd rfl h
theorem beg_none (b : List UInt8) (h : begB b = false) : lenF b = 0 := by
  rcases Nat.eq_zero_or_pos (lenF b) with h0 | h0
  · exact h0
  · rw [len_beg b (by omega)] at h; cases h
theorem beg_app (x y : List UInt8) (h : begB (x ++ y) = true) : begB x = true := by
  match x, h with
  | [], _ => rfl
  | [m], h =>
    match y, h with
    | [], h => exact h
    | n :: r, h =>
      have : (m.toNat == 170 && (decide (0 < n.toNat) && decide (n.toNat ≤ 200))) = true := h
      rw [Bool.and_eq_true] at this
      exact this.1
  | m :: n :: r, h => exact h
theorem beg_app_bad (x y : List UInt8) (h : begB x = false) : begB (x ++ y) = false := by
  cases h2 : begB (x ++ y) with
  | false => rfl
  | true => rw [beg_app x y h2] at h; cases h

theorem cutN_more : ∀ (k : Nat) (b : List UInt8) (j : Nat), b.length ≤ k → b.length ≤ j → cutN k b = cutN j b
  | 0, b, j, hk, hj => by
    have : b = [] := List.eq_nil_of_length_eq_zero (by omega)
    subst this
    cases j with
    | zero => rfl
    | succ j => rfl
  | k + 1, b, 0, hk, hj => by
    have : b = [] := List.eq_nil_of_length_eq_zero (by omega)
    subst this
    rfl
  | k + 1, b, j + 1, hk, hj => by
    unfold cutN
    by_cases h : lenF b = 0
    · rw [if_pos h, if_pos h]
    · rw [if_neg h, if_neg h]
      have := len_ge b h
      have hl := len_le b
      rw [cutN_more k (b.drop (lenF b)) j (by rw [List.length_drop]; omega) (by rw [List.length_drop]; omega)]
theorem cut_nil (b : List UInt8) (h : lenF b = 0) : cutF b = [] := by
  unfold cutF
  cases hb : b.length with
  | zero => rfl
  | succ k => unfold cutN; rw [if_pos h]
theorem cut_cons (b : List UInt8) (h : lenF b ≠ 0) : cutF b = partF b :: cutF (b.drop (lenF b)) := by
  have h3 := len_ge b h
  have hl := len_le b
  show cutN b.length b = _
  cases hb : b.length with
  | zero => omega
  | succ k =>
    unfold cutN
    rw [if_neg h]
    unfold cutF
    rw [cutN_more k (b.drop (lenF b)) (b.drop (lenF b)).length (by rw [List.length_drop]; omega) (Nat.le_refl _)]
/-- Frames, one behind the other, and what begins with none: they are what is cut. -/
theorem cut_join (L : List (List UInt8)) (r : List UInt8) (hL : ∀ x ∈ L, fineB x = true) (hr : lenF r = 0) : cutF (joinF L ++ r) = L := by
  induction L with
  | nil => rw [join_nil, List.nil_append]; exact cut_nil r hr
  | cons l L ih =>
    have hf := hL l (List.mem_cons_self ..)
    have e : joinF (l :: L) ++ r = putF l ++ (joinF L ++ r) := by rw [join_cons, List.append_assoc]
    have hlen : lenF (putF l ++ (joinF L ++ r)) = l.length + 2 := len_put _ _ hf
    have hd : (putF l ++ (joinF L ++ r)).drop (l.length + 2) = joinF L ++ r := by
      rw [← put_len l hf]; simp
    rw [e, cut_cons _ (by omega), part_put _ _ hf, hlen, hd, ih (fun x hx => hL x (List.mem_cons_of_mem _ hx))]
/-- What is cut are the frames that bytes begin with; what is left begins with none. -/
theorem cut_is (b : List UInt8) : (∀ x ∈ cutF b, fineB x = true) ∧ b = joinF (cutF b) ++ restF b ∧ lenF (restF b) = 0 ∧ doneF b + (restF b).length = b.length := by
  have key : ∀ (k : Nat) (b : List UInt8), b.length ≤ k → (∀ x ∈ cutF b, fineB x = true) ∧ ∃ r, b = joinF (cutF b) ++ r ∧ lenF r = 0 := by
    intro k
    induction k with
    | zero =>
      intro b hb
      have : b = [] := List.eq_nil_of_length_eq_zero (by omega)
      subst this
      exact ⟨fun x hx => (by cases hx), [], rfl, rfl⟩
    | succ k ih =>
      intro b hb
      by_cases h : lenF b = 0
      · rw [cut_nil b h]
        exact ⟨fun x hx => (by cases hx), b, rfl, h⟩
      · obtain ⟨hf, hl, he⟩ := len_pos b h
        have h3 := len_ge b h
        have hle := len_le b
        obtain ⟨h1, r, h2, h4⟩ := ih (b.drop (lenF b)) (by rw [List.length_drop]; omega)
        rw [cut_cons b h]
        refine ⟨fun x hx => ?_, r, ?_, h4⟩
        · rcases List.mem_cons.1 hx with rfl | hx
          · exact hf
          · exact h1 x hx
        · rw [join_cons, List.append_assoc, ← h2]; exact he
  obtain ⟨h1, r, h2, h4⟩ := key b.length b (Nat.le_refl _)
  have hr : restF b = r := by
    have h5 : b.drop (joinF (cutF b)).length = r := by
      have h6 := congrArg (List.drop (joinF (cutF b)).length) h2
      rw [List.drop_left] at h6
      exact h6
    exact h5
  rw [hr]
  refine ⟨h1, h2, h4, ?_⟩
  have := congrArg List.length h2
  rw [List.length_append] at this
  exact this.symm
theorem cut_parts (L : List (List UInt8)) (r : List UInt8) (hL : ∀ x ∈ L, fineB x = true) (hr : lenF r = 0) : cutF (joinF L ++ r) = L ∧ doneF (joinF L ++ r) = (joinF L).length ∧ restF (joinF L ++ r) = r := by
  have h := cut_join L r hL hr
  have hd : doneF (joinF L ++ r) = (joinF L).length := by unfold doneF; rw [h]
  refine ⟨h, hd, ?_⟩
  unfold restF
  rw [hd, List.drop_left]
theorem done_le (b : List UInt8) : doneF b ≤ b.length := by have := (cut_is b).2.2.2; omega
theorem take_done (b : List UInt8) : b.take (doneF b) = joinF (cutF b) := by
  have h := (cut_is b).2.1
  have h6 := congrArg (List.take (joinF (cutF b)).length) h
  rw [List.take_left] at h6
  exact h6
/-- One frame more. -/
theorem done_cons (b : List UInt8) (h : lenF b ≠ 0) : doneF b = lenF b + doneF (b.drop (lenF b)) ∧ restF b = restF (b.drop (lenF b)) := by
  have h1 : doneF b = lenF b + doneF (b.drop (lenF b)) := by
    obtain ⟨hf, hl, _⟩ := len_pos b h
    unfold doneF
    rw [cut_cons b h, join_cons, List.length_append, put_len _ hf, hl]
  refine ⟨h1, ?_⟩
  show b.drop (doneF b) = (b.drop (lenF b)).drop (doneF (b.drop (lenF b)))
  rw [h1, List.drop_drop]
theorem done_nil (b : List UInt8) (h : lenF b = 0) : doneF b = 0 ∧ restF b = b := by
  have h1 : doneF b = 0 := by unfold doneF; rw [cut_nil b h]; rfl
  exact ⟨h1, by unfold restF; rw [h1]; rfl⟩
/-- More bytes behind: what was cut is cut, and what was left goes on. -/
theorem cut_more (a c : List UInt8) : cutF (a ++ c) = cutF a ++ cutF (restF a ++ c) ∧ restF (a ++ c) = restF (restF a ++ c) := by
  obtain ⟨h1, h2, h3, _⟩ := cut_is a
  obtain ⟨k1, k2, k3, _⟩ := cut_is (restF a ++ c)
  have e : a ++ c = joinF (cutF a ++ cutF (restF a ++ c)) ++ restF (restF a ++ c) := by
    rw [join_app, List.append_assoc, ← k2, ← List.append_assoc, ← h2]
  have hall : ∀ x ∈ cutF a ++ cutF (restF a ++ c), fineB x = true := fun x hx => by
    rcases List.mem_append.1 hx with h | h
    · exact h1 x h
    · exact k1 x h
  have h := cut_parts _ _ hall k3
  rw [← e] at h
  exact ⟨h.1, h.2.2⟩
/-- What is wrong stays so, whatever comes behind. -/
theorem cut_bad (a c : List UInt8) (h : begB (restF a) = false) : cutF (a ++ c) = cutF a ∧ begB (restF (a ++ c)) = false := by
  have hb := beg_app_bad _ c h
  have h0 := beg_none _ hb
  obtain ⟨h1, h2⟩ := cut_more a c
  rw [cut_nil _ h0, List.append_nil] at h1
  rw [(done_nil _ h0).2] at h2
  exact ⟨h1, by rw [h2]; exact hb⟩
/-- Each beginning of a frame, but all of it. -/
theorem put_begin (l : List UInt8) (i : Nat) (h : i < (putF l).length) : lenF ((putF l).take i) = 0 ∧ begB ((putF l).take i) = true := by
  cases hf : fineB l with
  | false => rw [put_none l hf] at h; simp at h
  | true =>
    obtain ⟨h0, h2⟩ := (fine_iff l).1 hf
    have hb : begB ((putF l).take i) = true := by
      refine beg_app _ ((putF l).drop i) ?_
      rw [List.take_append_drop]
      refine len_beg _ ?_
      have := len_put l [] hf
      rw [List.append_nil] at this
      rw [this]; omega
    refine ⟨?_, hb⟩
    have hlen := put_len l hf
    match i, h with
    | 0, _ => rw [List.take_zero]; rfl
    | 1, _ => unfold putF; rw [if_pos hf]; rfl
    | i + 2, h =>
      unfold putF
      rw [if_pos hf]
      show lenF (170 :: UInt8.ofNat l.length :: l.take i) = 0
      have e : (UInt8.ofNat l.length).toNat = l.length := by rw [UInt8.toNat_ofNat']; omega
      rw [len_two, e, if_neg]
      rintro ⟨_, _, _, h4⟩
      rw [List.length_take] at h4
      omega
theorem put_first (l : List UInt8) : lenF (putF l) = (putF l).length ∧ begB (putF l) = true ∧ (putF l ≠ [] → partF (putF l) = l) := by
  cases hf : fineB l with
  | false => rw [put_none l hf]; exact ⟨rfl, rfl, fun h => absurd rfl h⟩
  | true =>
    have h1 := len_put l [] hf
    have h2 := part_put l [] hf
    rw [List.append_nil] at h1 h2
    refine ⟨by rw [h1, put_len l hf], len_beg _ (by omega), fun _ => h2⟩
end Go.Proofs.Ytndamiocmdnenaa
