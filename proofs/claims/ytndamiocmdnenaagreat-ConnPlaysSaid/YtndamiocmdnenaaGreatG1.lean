/- FrameM, RingM, Base, Region, Tail, Open, DigMath, OrdMath, ConvR: texts of this seat, one behind the other. -/
import Derived.Lib.Hide
import Derived.Laws.CopyOwn
import Derived.WalkKit
import Derived.WalkSpells
import Derived.WalkLawsBesides
import Derived.Handy
import Derived.Laws.BytesArg
import Derived.Deep.RegionHeld3
import Derived.Test.YtndamiocmdnenaaGreatRows
import Derived.ProofKit
import Derived.OpenShut
import Derived.ShutString
import Derived.ChangeOld
import Derived.Below
import Derived.SliceStrings
/- Frames, told and cut: plain mathematics. -/
namespace Go.Proofs.YtndamiocmdnenaaGreat
set_option linter.unusedVariables false
set_option maxRecDepth 100000
set_option linter.unusedSimpArgs false

/-- May a frame begin so? -/
def begB : List UInt8 → Bool
  | [] => true
  | [m] => m.toNat == 170
  | m :: n :: _ => m.toNat == 170 && (decide (0 < n.toNat) && decide (n.toNat ≤ 200))
/-- How many bytes the first frame has, if it is all there; else 0. -/
def lenF : List UInt8 → Nat
  | m :: n :: r => if m.toNat = 170 ∧ 0 < n.toNat ∧ n.toNat ≤ 200 ∧ n.toNat ≤ r.length then n.toNat + 2 else 0
  | _ => 0
/-- What the first frame has. -/
def partF (b : List UInt8) : List UInt8 := (b.take (lenF b)).drop 2
/-- May a frame have that? -/
def fineB (l : List UInt8) : Bool := decide (0 < l.length) && decide (l.length ≤ 200)
def putF (l : List UInt8) : List UInt8 := if fineB l = true then 170 :: UInt8.ofNat l.length :: l else []
/-- Frames, one behind the other. -/
def joinF (L : List (List UInt8)) : List UInt8 := (L.map putF).flatten
def cutN : Nat → List UInt8 → List (List UInt8)
  | 0, _ => []
  | k + 1, b => if lenF b = 0 then [] else partF b :: cutN k (b.drop (lenF b))
/-- What all frames have that bytes begin with. -/
def cutF (b : List UInt8) : List (List UInt8) := cutN b.length b
/-- How many bytes these frames are. -/
def doneF (b : List UInt8) : Nat := (joinF (cutF b)).length
/-- What is left behind them. -/
def restF (b : List UInt8) : List UInt8 := b.drop (doneF b)

theorem fine_iff (l : List UInt8) : fineB l = true ↔ 0 < l.length ∧ l.length ≤ 200 := by unfold fineB; simp
theorem put_len (l : List UInt8) (h : fineB l = true) : (putF l).length = l.length + 2 := by unfold putF; rw [if_pos h]; rfl
theorem put_none (l : List UInt8) (h : fineB l = false) : putF l = [] := by unfold putF; rw [h]; rfl
theorem put_len_le (l : List UInt8) : (putF l).length ≤ l.length + 2 := by
  cases h : fineB l with
  | true => exact Nat.le_of_eq (put_len l h)
  | false => rw [put_none l h]; exact Nat.zero_le _
theorem join_nil : joinF [] = [] := rfl
theorem join_cons (l : List UInt8) (L : List (List UInt8)) : joinF (l :: L) = putF l ++ joinF L := rfl
theorem join_app (L M : List (List UInt8)) : joinF (L ++ M) = joinF L ++ joinF M := by unfold joinF; rw [List.map_append, List.flatten_append]
theorem join_snoc (L : List (List UInt8)) (l : List UInt8) : joinF (L ++ [l]) = joinF L ++ putF l := by rw [join_app, join_cons, join_nil, List.append_nil]

theorem len_two (m n : UInt8) (r : List UInt8) : lenF (m :: n :: r) = if m.toNat = 170 ∧ 0 < n.toNat ∧ n.toNat ≤ 200 ∧ n.toNat ≤ r.length then n.toNat + 2 else 0 := rfl
theorem len_le (b : List UInt8) : lenF b ≤ b.length := by
  match b with
  | [] => exact Nat.zero_le _
  | [m] => exact Nat.zero_le _
  | m :: n :: r =>
    rw [len_two, List.length_cons, List.length_cons]
    by_cases hc : m.toNat = 170 ∧ 0 < n.toNat ∧ n.toNat ≤ 200 ∧ n.toNat ≤ r.length
    · rw [if_pos hc]; omega
    · rw [if_neg hc]; omega
theorem len_put (l r : List UInt8) (h : fineB l = true) : lenF (putF l ++ r) = l.length + 2 := by
  obtain ⟨h0, h2⟩ := (fine_iff l).1 h
  unfold putF
  rw [if_pos h]
  show lenF (170 :: UInt8.ofNat l.length :: (l ++ r)) = _
  have e : (UInt8.ofNat l.length).toNat = l.length := by rw [UInt8.toNat_ofNat']; omega
  rw [len_two, e, if_pos ⟨rfl, h0, h2, by rw [List.length_append]; omega⟩]
theorem part_put (l r : List UInt8) (h : fineB l = true) : partF (putF l ++ r) = l := by
  unfold partF
  rw [len_put l r h]
  unfold putF
  rw [if_pos h]
  show ((170 :: UInt8.ofNat l.length :: (l ++ r)).take (l.length + 2)).drop 2 = l
  simp
/-- A first frame that is all there. -/
theorem len_pos (b : List UInt8) (h : lenF b ≠ 0) : fineB (partF b) = true ∧ lenF b = (partF b).length + 2 ∧ b = putF (partF b) ++ b.drop (lenF b) := by
  match b, h with
  | m :: n :: r, h =>
    unfold partF
    have hl : lenF (m :: n :: r) = if m.toNat = 170 ∧ 0 < n.toNat ∧ n.toNat ≤ 200 ∧ n.toNat ≤ r.length then n.toNat + 2 else 0 := rfl
    rw [hl] at h ⊢
    by_cases hc : m.toNat = 170 ∧ 0 < n.toNat ∧ n.toNat ≤ 200 ∧ n.toNat ≤ r.length
    · rw [if_pos hc]
      obtain ⟨hm, h0, h2, hr⟩ := hc
      have ep : ((m :: n :: r).take (n.toNat + 2)).drop 2 = r.take n.toNat := by simp
      have ed : (m :: n :: r).drop (n.toNat + 2) = r.drop n.toNat := by simp
      rw [ep, ed]
      have el : (r.take n.toNat).length = n.toNat := by rw [List.length_take]; omega
      have hf : fineB (r.take n.toNat) = true := by rw [fine_iff, el]; exact ⟨h0, h2⟩
      refine ⟨hf, by rw [el], ?_⟩
      unfold putF
      rw [if_pos hf, el]
      have e1 : m = 170 := UInt8.toNat_inj.1 (by rw [hm]; rfl)
      have e2 : UInt8.ofNat n.toNat = n := by simp
      rw [e1, e2]
      simp
    · rw [if_neg hc] at h; exact absurd rfl h
  | [], h => exact absurd rfl h
  | [m], h => exact absurd rfl h
theorem len_ge (b : List UInt8) (h : lenF b ≠ 0) : 3 ≤ lenF b := by
  obtain ⟨h1, h2, _⟩ := len_pos b h
  have := ((fine_iff _).1 h1).1
  omega
theorem len_beg (b : List UInt8) (h : lenF b ≠ 0) : begB b = true := by
  match b, h with
  | m :: n :: r, h =>
    have hl : lenF (m :: n :: r) = if m.toNat = 170 ∧ 0 < n.toNat ∧ n.toNat ≤ 200 ∧ n.toNat ≤ r.length then n.toNat + 2 else 0 := rfl
    rw [hl] at h
    by_cases hc : m.toNat = 170 ∧ 0 < n.toNat ∧ n.toNat ≤ 200 ∧ n.toNat ≤ r.length
    · unfold begB; simp [hc.1, hc.2.1, hc.2.2.1]
    · rw [if_neg hc] at h; exact absurd rfl h
  | [], h => exact absurd rfl h
  | [m], h => exact absurd rfl h
theorem beg_none (b : List UInt8) (h : begB b = false) : lenF b = 0 := by
  rcases Nat.eq_zero_or_pos (lenF b) with h0 | h0
  · exact h0
  · rw [len_beg b (by omega)] at h; cases h
theorem beg_app (x y : List UInt8) (h : begB (x ++ y) = true) : begB x = true := by
  match x, h with
  | [], _ => rfl
  | [m], h =>
    match y, h with
    | [], h => exact h
    | n :: r, h =>
      have : (m.toNat == 170 && (decide (0 < n.toNat) && decide (n.toNat ≤ 200))) = true := h
      rw [Bool.and_eq_true] at this
      exact this.1
  | m :: n :: r, h => exact h
theorem beg_app_bad (x y : List UInt8) (h : begB x = false) : begB (x ++ y) = false := by
  cases h2 : begB (x ++ y) with
  | false => rfl
  | true => rw [beg_app x y h2] at h; cases h

theorem cutN_more : ∀ (k : Nat) (b : List UInt8) (j : Nat), b.length ≤ k → b.length ≤ j → cutN k b = cutN j b
  | 0, b, j, hk, hj => by
    have : b = [] := List.eq_nil_of_length_eq_zero (by omega)
    subst this
    cases j with
    | zero => rfl
    | succ j => rfl
  | k + 1, b, 0, hk, hj => by
    have : b = [] := List.eq_nil_of_length_eq_zero (by omega)
    subst this
    rfl
  | k + 1, b, j + 1, hk, hj => by
    unfold cutN
    by_cases h : lenF b = 0
    · rw [if_pos h, if_pos h]
    · rw [if_neg h, if_neg h]
      have := len_ge b h
      have hl := len_le b
      rw [cutN_more k (b.drop (lenF b)) j (by rw [List.length_drop]; omega) (by rw [List.length_drop]; omega)]
theorem cut_nil (b : List UInt8) (h : lenF b = 0) : cutF b = [] := by
  unfold cutF
  cases hb : b.length with
  | zero => rfl
  | succ k => unfold cutN; rw [if_pos h]
theorem cut_cons (b : List UInt8) (h : lenF b ≠ 0) : cutF b = partF b :: cutF (b.drop (lenF b)) := by
  have h3 := len_ge b h
  have hl := len_le b
  show cutN b.length b = _
  cases hb : b.length with
  | zero => omega
  | succ k =>
    unfold cutN
    rw [if_neg h]
    unfold cutF
    rw [cutN_more k (b.drop (lenF b)) (b.drop (lenF b)).length (by rw [List.length_drop]; omega) (Nat.le_refl _)]
/-- Frames, one behind the other, and what begins with none: they are what is cut. -/
theorem cut_join (L : List (List UInt8)) (r : List UInt8) (hL : ∀ x ∈ L, fineB x = true) (hr : lenF r = 0) : cutF (joinF L ++ r) = L := by
  induction L with
  | nil => rw [join_nil, List.nil_append]; exact cut_nil r hr
  | cons l L ih =>
    have hf := hL l (List.mem_cons_self ..)
    have e : joinF (l :: L) ++ r = putF l ++ (joinF L ++ r) := by rw [join_cons, List.append_assoc]
    have hlen : lenF (putF l ++ (joinF L ++ r)) = l.length + 2 := len_put _ _ hf
    have hd : (putF l ++ (joinF L ++ r)).drop (l.length + 2) = joinF L ++ r := by
      rw [← put_len l hf]; simp
    rw [e, cut_cons _ (by omega), part_put _ _ hf, hlen, hd, ih (fun x hx => hL x (List.mem_cons_of_mem _ hx))]
/-- What is cut are the frames that bytes begin with; what is left begins with none. -/
theorem cut_is (b : List UInt8) : (∀ x ∈ cutF b, fineB x = true) ∧ b = joinF (cutF b) ++ restF b ∧ lenF (restF b) = 0 ∧ doneF b + (restF b).length = b.length := by
  have key : ∀ (k : Nat) (b : List UInt8), b.length ≤ k → (∀ x ∈ cutF b, fineB x = true) ∧ ∃ r, b = joinF (cutF b) ++ r ∧ lenF r = 0 := by
    intro k
    induction k with
    | zero =>
      intro b hb
      have : b = [] := List.eq_nil_of_length_eq_zero (by omega)
      subst this
      exact ⟨fun x hx => (by cases hx), [], rfl, rfl⟩
    | succ k ih =>
      intro b hb
      by_cases h : lenF b = 0
      · rw [cut_nil b h]
        exact ⟨fun x hx => (by cases hx), b, rfl, h⟩
      · obtain ⟨hf, hl, he⟩ := len_pos b h
        have h3 := len_ge b h
        have hle := len_le b
        obtain ⟨h1, r, h2, h4⟩ := ih (b.drop (lenF b)) (by rw [List.length_drop]; omega)
        rw [cut_cons b h]
        refine ⟨fun x hx => ?_, r, ?_, h4⟩
        · rcases List.mem_cons.1 hx with rfl | hx
          · exact hf
          · exact h1 x hx
        · rw [join_cons, List.append_assoc, ← h2]; exact he
  obtain ⟨h1, r, h2, h4⟩ := key b.length b (Nat.le_refl _)
  have hr : restF b = r := by
    have h5 : b.drop (joinF (cutF b)).length = r := by
      have h6 := congrArg (List.drop (joinF (cutF b)).length) h2
      rw [List.drop_left] at h6
      exact h6
    exact h5
  rw [hr]
  refine ⟨h1, h2, h4, ?_⟩
  have := congrArg List.length h2
  rw [List.length_append] at this
  exact this.symm
theorem cut_parts (L : List (List UInt8)) (r : List UInt8) (hL : ∀ x ∈ L, fineB x = true) (hr : lenF r = 0) : cutF (joinF L ++ r) = L ∧ doneF (joinF L ++ r) = (joinF L).length ∧ restF (joinF L ++ r) = r := by
  have h := cut_join L r hL hr
  have hd : doneF (joinF L ++ r) = (joinF L).length := by unfold doneF; rw [h]
  refine ⟨h, hd, ?_⟩
  unfold restF
  rw [hd, List.drop_left]
theorem done_le (b : List UInt8) : doneF b ≤ b.length := by have := (cut_is b).2.2.2; omega
theorem take_done (b : List UInt8) : b.take (doneF b) = joinF (cutF b) := by
  have h := (cut_is b).2.1
  have h6 := congrArg (List.take (joinF (cutF b)).length) h
  rw [List.take_left] at h6
  exact h6
/-- One frame more. -/
theorem done_cons (b : List UInt8) (h : lenF b ≠ 0) : doneF b = lenF b + doneF (b.drop (lenF b)) ∧ restF b = restF (b.drop (lenF b)) := by
  have h1 : doneF b = lenF b + doneF (b.drop (lenF b)) := by
    obtain ⟨hf, hl, _⟩ := len_pos b h
    unfold doneF
    rw [cut_cons b h, join_cons, List.length_append, put_len _ hf, hl]
  refine ⟨h1, ?_⟩
  show b.drop (doneF b) = (b.drop (lenF b)).drop (doneF (b.drop (lenF b)))
  rw [h1, List.drop_drop]
theorem done_nil (b : List UInt8) (h : lenF b = 0) : doneF b = 0 ∧ restF b = b := by
  have h1 : doneF b = 0 := by unfold doneF; rw [cut_nil b h]; rfl
  exact ⟨h1, by unfold restF; rw [h1]; rfl⟩
/-- More bytes behind: what was cut is cut, and what was left goes on. -/
theorem cut_more (a c : List UInt8) : cutF (a ++ c) = cutF a ++ cutF (restF a ++ c) ∧ restF (a ++ c) = restF (restF a ++ c) := by
  obtain ⟨h1, h2, h3, _⟩ := cut_is a
  obtain ⟨k1, k2, k3, _⟩ := cut_is (restF a ++ c)
  have e : a ++ c = joinF (cutF a ++ cutF (restF a ++ c)) ++ restF (restF a ++ c) := by
    rw [join_app, List.append_assoc, ← k2, ← List.append_assoc, ← h2]
  have hall : ∀ x ∈ cutF a ++ cutF (restF a ++ c), fineB x = true := fun x hx => by
    rcases List.mem_append.1 hx with h | h
    · exact h1 x h
    · exact k1 x h
  have h := cut_parts _ _ hall k3
  rw [← e] at h
  exact ⟨h.1, h.2.2⟩
/-- What is wrong stays so, whatever comes behind. -/
theorem cut_bad (a c : List UInt8) (h : begB (restF a) = false) : cutF (a ++ c) = cutF a ∧ begB (restF (a ++ c)) = false := by
  have hb := beg_app_bad _ c h
  have h0 := beg_none _ hb
  obtain ⟨h1, h2⟩ := cut_more a c
  rw [cut_nil _ h0, List.append_nil] at h1
  rw [(done_nil _ h0).2] at h2
  exact ⟨h1, by rw [h2]; exact hb⟩
/-- Each beginning of a frame, but all of it. -/
theorem put_begin (l : List UInt8) (i : Nat) (h : i < (putF l).length) : lenF ((putF l).take i) = 0 ∧ begB ((putF l).take i) = true := by
  cases hf : fineB l with
  | false => rw [put_none l hf] at h; simp at h
  | true =>
    obtain ⟨h0, h2⟩ := (fine_iff l).1 hf
    have hb : begB ((putF l).take i) = true := by
      refine beg_app _ ((putF l).drop i) ?_
      rw [List.take_append_drop]
      refine len_beg _ ?_
      have := len_put l [] hf
      rw [List.append_nil] at this
      rw [this]; omega
    refine ⟨?_, hb⟩
    have hlen := put_len l hf
    match i, h with
    | 0, _ => rw [List.take_zero]; rfl
    | 1, _ => unfold putF; rw [if_pos hf]; rfl
    | i + 2, h =>
      unfold putF
      rw [if_pos hf]
      show lenF (170 :: UInt8.ofNat l.length :: l.take i) = 0
      have e : (UInt8.ofNat l.length).toNat = l.length := by rw [UInt8.toNat_ofNat']; omega
      rw [len_two, e, if_neg]
      rintro ⟨_, _, _, h4⟩
      rw [List.length_take] at h4
      omega
theorem put_first (l : List UInt8) : lenF (putF l) = (putF l).length ∧ begB (putF l) = true ∧ (putF l ≠ [] → partF (putF l) = l) := by
  cases hf : fineB l with
  | false => rw [put_none l hf]; exact ⟨rfl, rfl, fun h => absurd rfl h⟩
  | true =>
    have h1 := len_put l [] hf
    have h2 := part_put l [] hf
    rw [List.append_nil] at h1 h2
    refine ⟨by rw [h1, put_len l hf], len_beg _ (by omega), fun _ => h2⟩
end Go.Proofs.YtndamiocmdnenaaGreat

/- Bytes that stand round in a row: what it is that they wait, and what adding and taking come to. Plain: nothing of the program is named here. -/
namespace Go.Proofs.YtndamiocmdnenaaGreat
set_option linter.unusedVariables false
set_option maxRecDepth 100000
set_option linter.unusedSimpArgs false

/-- In a row of n places the place k, which may be one round on. -/
def rnd (n k : Nat) : Nat := if k < n then k else k - n

/-- In the row stand, from place f on, the bytes q. -/
structure Rd (row : List UInt8) (f : Nat) (q : List UInt8) : Prop where
  fit : q.length ≤ row.length
  fst : f < row.length ∨ f = 0
  at_ : ∀ i, i < q.length → row[rnd row.length (f + i)]? = q[i]?

theorem Rd.new (m : Nat) : Rd (List.replicate m 0) 0 [] := ⟨by simp, .inr rfl, fun i hi => by simp at hi⟩

theorem getElem?_splice {α : Type} (L cs : List α) (o i : Nat) (h : o + cs.length ≤ L.length) : (splice L o cs)[i]? = if i < o then L[i]? else if i < o + cs.length then cs[i - o]? else L[i]? := by
  unfold splice
  rw [List.getElem?_append, List.getElem?_append, List.length_take]
  have e : min o L.length = o := by omega
  rw [e]
  by_cases h1 : i < o
  · rw [if_pos h1, if_pos h1, List.getElem?_take_of_lt h1]
  · rw [if_neg h1, if_neg h1]
    by_cases h2 : i < o + cs.length
    · rw [if_pos (by omega), if_pos h2]
    · rw [if_neg (by omega), if_neg h2, List.getElem?_drop]
      congr 1
      omega

/-- The first n that wait, in two pieces. -/
theorem Rd.begin_ {row : List UInt8} {f : Nat} {q : List UInt8} (h : Rd row f q) (n w : Nat) (hn : n ≤ q.length) (hw : w = min (row.length - f) n) (Z : List UInt8) (hZ : Z.length = n) :
    splice (splice Z 0 ((row.drop f).take w)) w (row.take (n - w)) = q.take n := by
  have h1 := h.fit
  have l1 : ((row.drop f).take w).length = w := by rw [List.length_take, List.length_drop]; omega
  have l2 : (row.take (n - w)).length = n - w := by rw [List.length_take]; omega
  have l3 : (splice Z 0 ((row.drop f).take w)).length = n := by rw [length_splice _ _ _ (by omega), hZ]
  apply List.ext_getElem?
  intro i
  rw [getElem?_splice _ _ _ _ (by omega), l2]
  by_cases hi : i < n
  · rw [List.getElem?_take_of_lt hi, ← h.at_ i (by omega)]
    unfold rnd
    by_cases h2 : i < w
    · rw [if_pos h2, getElem?_splice _ _ _ _ (by omega), if_neg (by omega), l1, if_pos (by omega), List.getElem?_take_of_lt (by omega), List.getElem?_drop, if_pos (by omega)]
      congr 1
    · rw [if_neg h2, if_pos (by omega), List.getElem?_take_of_lt (by omega)]
      have := h.fst
      rw [if_neg (by omega)]
      congr 1
      omega
  · rw [if_neg (by omega), if_neg (by omega), List.getElem?_eq_none (by omega), List.getElem?_eq_none (by rw [List.length_take]; omega)]

/-- Where that one stands that n bytes wait ahead of. -/
def plc (m k : Nat) : Nat := if m ≤ k then k - m else k

theorem Rd.take_ {row : List UInt8} {f : Nat} {q : List UInt8} (h : Rd row f q) (n : Nat) (hn : n ≤ q.length) : Rd row (plc row.length (f + n)) (q.drop n) := by
  have h1 := h.fit
  have h2 := h.fst
  refine ⟨by rw [List.length_drop]; omega, ?_, fun i hi => ?_⟩
  · unfold plc; split <;> omega
  · rw [List.length_drop] at hi
    rw [List.getElem?_drop, ← h.at_ (n + i) (by omega)]
    congr 1
    unfold plc rnd
    split <;> split <;> split <;> omega

theorem plc_le {row : List UInt8} {f : Nat} {q : List UInt8} (h : Rd row f q) (k : Nat) (hk : k ≤ row.length) : plc row.length (f + k) ≤ row.length := by
  have h2 := h.fst
  unfold plc
  split <;> omega

/-- c behind those that wait, in two pieces. -/
theorem Rd.add_ {row : List UInt8} {f : Nat} {q : List UInt8} (h : Rd row f q) (c : List UInt8) (hc : c.length ≤ row.length - q.length) (p w : Nat) (hp : p = plc row.length (f + q.length)) (hw : w = min c.length (row.length - p)) :
    (splice (splice row p (c.take w)) 0 (c.drop w)).length = row.length ∧ Rd (splice (splice row p (c.take w)) 0 (c.drop w)) f (q ++ c) := by
  have h1 := h.fit
  have h2 := h.fst
  have hpl : p ≤ row.length := hp ▸ plc_le h q.length h1
  have l1 : (c.take w).length = w := by rw [List.length_take]; omega
  have l2 : (c.drop w).length = c.length - w := by rw [List.length_drop]
  have l3 : (splice row p (c.take w)).length = row.length := length_splice _ _ _ (by omega)
  have l4 : (splice (splice row p (c.take w)) 0 (c.drop w)).length = row.length := by rw [length_splice _ _ _ (by omega), l3]
  refine ⟨l4, ⟨by rw [List.length_append, l4]; omega, by rw [l4]; exact h2, fun i hi => ?_⟩⟩
  rw [List.length_append] at hi
  rw [l4, getElem?_splice _ _ _ _ (by omega), if_neg (by omega), l2, getElem?_splice _ _ _ _ (by omega), l1, List.getElem?_append]
  unfold plc at hp
  by_cases hq : i < q.length
  · rw [if_pos hq, ← h.at_ i hq]
    unfold rnd
    split at hp <;> split <;> (repeat' (first | (rw [if_neg (by omega)]) | rfl)) <;> (try (split <;> first | rfl | omega)) <;> (try omega)
  · rw [if_neg hq, List.getElem?_drop]
    unfold rnd
    by_cases hiw : i - q.length < w
    · have e : p ≤ (if f + i < row.length then f + i else f + i - row.length) ∧ (if f + i < row.length then f + i else f + i - row.length) < p + w ∧ (if f + i < row.length then f + i else f + i - row.length) - p = i - q.length := by
        split at hp <;> split <;> omega
      obtain ⟨e1, e2, e3⟩ := e
      rw [if_neg (by split at hp <;> omega), if_neg (by omega), if_pos e2, e3, List.getElem?_take_of_lt hiw]
    · have e : (if f + i < row.length then f + i else f + i - row.length) = i - q.length - w := by
        split at hp <;> split <;> omega
      rw [e, if_pos (by omega)]
      congr 1
      omega
end Go.Proofs.YtndamiocmdnenaaGreat

/- Words for memory that all texts of this seat use: a block that is known whole, bytes that a slice reads as. Nothing of the program is named here. -/
namespace Go.Proofs.YtndamiocmdnenaaGreat
set_option linter.unusedVariables false
set_option maxRecDepth 100000
set_option linter.unusedSimpArgs false
open Go.RowKit

/-- One byte as a value. -/
abbrev u8 (c : UInt8) : Value := .int .u8 (c.toNat : Int)

/-- Block g is the cells cs of type t, none of them frozen. -/
def Bk (w : World) (g : Nat) (t : TypeId) (cs : Array Value) : Prop := w.heap[g]? = some (.cells cs t (0, 0))

theorem Bk.lt {w : World} {g : Nat} {t : TypeId} {cs : Array Value} (h : Bk w g t cs) : g < w.heap.size := lt_of_block h
theorem Bk.cell {w : World} {g : Nat} {t : TypeId} {cs : Array Value} (h : Bk w g t cs) (i : Nat) : w.cell? ⟨g, i, none⟩ = cs[i]? := cell_of_row w g i cs t (0, 0) h
theorem Bk.frozen {w : World} {g : Nat} {t : TypeId} {cs : Array Value} (h : Bk w g t cs) (i : Nat) : w.frozen? ⟨g, i, none⟩ = false := frozen_of_row w g i cs t h
theorem Bk.new (w : World) (t : TypeId) (cs : Array Value) : Bk (w.alloc (.cells cs t)) w.heap.size t cs := heap_alloc_new w _
theorem Bk.here {w : World} {t : TypeId} {cs : Array Value} {n : Nat} (h : n = w.heap.size) : Bk (w.alloc (.cells cs t)) n t cs := by subst h; exact Bk.new w t cs
theorem Bk.drewN {w : World} {g : Nat} {t : TypeId} {cs : Array Value} (h : Bk w g t cs) (n : Nat) : Bk (w.drewN n) g t cs := h
theorem Bk.drew {w : World} {g : Nat} {t : TypeId} {cs : Array Value} (h : Bk w g t cs) : Bk w.drew g t cs := h
theorem Bk.alloc {w : World} {g : Nat} {t : TypeId} {cs : Array Value} (h : Bk w g t cs) (o : Obj) : Bk (w.alloc o) g t cs := (Below.heap_alloc w o g h.lt).trans h
theorem Bk.set {w : World} {g : Nat} {t : TypeId} {cs : Array Value} (h : Bk w g t cs) (i : Nat) (u : Value) : Bk (w.setCell ⟨g, i, none⟩ u) g t (cs.setIfInBounds i u) :=
  heap_setCell_same w g i cs t u h
theorem Bk.far {w : World} {g : Nat} {t : TypeId} {cs : Array Value} (h : Bk w g t cs) {p : Addr} (hp : g ≠ p.block) (u : Value) : Bk (w.setCell p u) g t cs := (heap_setCell_other w p g u hp).trans h
theorem Bk.below {w w' : World} {B g : Nat} {t : TypeId} {cs : Array Value} (h : Bk w g t cs) (hb : Below B w w') (hg : g < B) : Bk w' g t cs := (hb.block g hg).trans h

/-- make([]byte, n): the world behind it written out. -/
theorem mk_bytes {P : Program} (w : World) (t e : TypeId) (ht : P.underlying t = some (.slice e)) (hi : (P.info? e).map (fun i => (i.zero, i.size, i.bytes)) = some (some (.int .u8 0), 1, 1)) (n : Nat) (hn : n ≤ 140737488355328) (cs : Array Value) (hcs : cs = Array.replicate n (.int .u8 0)) (kl kc : IntKind := .i64) :
    (Instr.makeSlice t (.int kl (n : Int)) (.int kc (n : Int))).run P w = .ok (.slice (some ⟨w.heap.size, 0, none⟩) n n) (w.alloc (.cells cs e)) := by
  obtain ⟨i, hi1, hz, hs, hb⟩ := info_parts hi
  have h := run_make (P := P) w t e i (.int .u8 0) ht hi1 hz kl kc n n (by omega) (by omega) (by rw [hb]; omega) (by omega)
  rw [h]
  have e1 : madeCells #[Value.int .u8 0] n = cs := by
    rw [hcs]; apply Array.ext'; rw [toList_madeCells_one]; simp
  simp [hs, Value.cells, e1]

/-- Bytes as cells. -/
def bcells (l : List UInt8) : Array Value := (l.map u8).toArray
theorem bcells_size (l : List UInt8) : (bcells l).size = l.length := by simp [bcells]
theorem bcells_at (l : List UInt8) (i : Nat) (h : i < l.length) : (bcells l)[i]? = some (.int .u8 ((l[i]).toNat : Int)) := by simp [bcells, h]

/-- The slice at A reads as the bytes l, and lies below block B. -/
def Rb (w : World) (B : Nat) (A : Option Addr) (l : List UInt8) : Prop :=
  l = [] ∨ ∃ b o, A = some ⟨b, o, none⟩ ∧ b < B ∧ ∀ i, (h : i < l.length) → w.cell? ⟨b, o + i, none⟩ = some (.int .u8 ((l[i]).toNat : Int))

theorem Rb.nil (w : World) (B : Nat) (A : Option Addr) : Rb w B A [] := .inl rfl
theorem Rb.below {w w' : World} {B B' : Nat} {A : Option Addr} {l : List UInt8} (h : Rb w B A l) (hb : Below B' w w') (hB : B ≤ B') : Rb w' B A l := by
  rcases h with h | ⟨b, o, e, hlt, hc⟩
  · exact .inl h
  · exact .inr ⟨b, o, e, hlt, fun i hi => (hb.cell (p := ⟨b, o + i, none⟩) (by show b < B'; omega)).trans (hc i hi)⟩
theorem Rb.more {w : World} {B B' : Nat} {A : Option Addr} {l : List UInt8} (h : Rb w B A l) (hB : B ≤ B') : Rb w B' A l := by
  rcases h with h | ⟨b, o, e, hlt, hc⟩
  · exact .inl h
  · exact .inr ⟨b, o, e, by omega, hc⟩
theorem Rb.bk {w : World} {g : Nat} {t : TypeId} {l : List UInt8} (h : Bk w g t (bcells l)) : Rb w (g + 1) (some ⟨g, 0, none⟩) l :=
  .inr ⟨g, 0, rfl, by omega, fun i hi => by rw [h.cell, Nat.zero_add, bcells_at l i hi]⟩
theorem Rb.new (w : World) (t : TypeId) (l : List UInt8) : Rb (w.alloc (.cells (bcells l) t)) (w.heap.size + 1) (some ⟨w.heap.size, 0, none⟩) l := Rb.bk (Bk.new w t _)

theorem strOfNums_u8 (l : List UInt8) : strOfNums (l.map fun c => (c.toNat : Int)) = ⟨l.toArray⟩ := by
  have h := strOfNums_data (l.map fun c => (c.toNat : Int))
  have e : (strOfNums (l.map fun c => (c.toNat : Int))).data = l.toArray := by
    apply Array.ext'
    rw [h, List.map_map]
    have e0 : ((fun n : Int => UInt8.ofNat n.toNat) ∘ fun c : UInt8 => (c.toNat : Int)) = id := by funext c; simp
    rw [e0, List.map_id]
  cases hs : strOfNums (l.map fun c => (c.toNat : Int)) with
  | mk d => rw [hs] at e; simp at e; rw [e]

/-- string(b). -/
theorem str_of {P : Program} {w : World} {B : Nat} {A : Option Addr} {l : List UInt8} (h : Rb w B A l) (src e dst : TypeId) (hs : P.underlying src = some (.slice e)) (he : P.underlying e = some (.int .u8)) (hd : P.underlying dst = some .string) (n cap : Nat) (hn : l.length = n) :
    (convert src dst (.slice A n cap)).run P w = .ok (.string ⟨l.toArray⟩) w := by
  subst hn
  by_cases h0 : l = []
  · subst h0
    cases A with
    | none => exact run_convert_bytes_nil w src e hs he 0 cap dst hd
    | some a =>
      rw [run_convert_bytes_string w src dst e _ _ _ hs he hd]
      have hl := run_loadCells_list (P := P) w a [] (fun j v hj => by simp at hj)
      exact (run_bytesToString (P := P) w a 0 cap [] (by simpa using hl)).trans rfl
  · rcases h with h | ⟨b, o, rfl, _, hc⟩
    · exact absurd h h0
    · have := run_convert_bytes_arg (P := P) w src e hs he b o l.length cap (l.map fun c => (c.toNat : Int)) (by simp) (fun i hi => by
        rw [hc i hi]; simp [List.getD, hi]) dst hd
      rw [this, strOfNums_u8]

end Go.Proofs.YtndamiocmdnenaaGreat

/- Regions that draw their order: a stronger condition on worlds may be taken up on the way. Nothing of the program is named here. -/
namespace Go.Proofs.YtndamiocmdnenaaGreat
set_option linter.unusedVariables false
set_option maxRecDepth 100000
set_option linter.unusedSimpArgs false

theorem wpAnyH_mono {P : Program} {md : Region.Mode} {ops : Array Oper} {Q : Exit → Act → World → Prop} {S S' : World → Prop} (hS : ∀ w, S' w → S w) :
    ∀ (fuel : Nat) (listed : Array Bool) (a : Act) (w : World), wpAnyH P md ops Q S' fuel listed a w → wpAnyH P md ops Q S fuel listed a w
  | 0, _, _, _, h => h
  | fuel + 1, _, _, _, h => ⟨h.1, fun i hi => wpOp_mono (fun a' w' h' => ⟨hS w' h'.1, wpAnyH_mono hS fuel _ a' w' h'.2⟩) (h.2 i hi)⟩

/-- 'wpAnyH_take', the operation's own place said outright. -/
theorem take_at {P : Program} {md : Region.Mode} {ops : Array Oper} {Q : Exit → Act → World → Prop} {S : World → Prop} (d : Option Tmp) {i : Nat} {oi : Oper} {v : Value} {fuel : Nat} {listed : Array Bool} {a : Act} {w : World} (hi : ops[i]? = some oi)
    (hd : oi.dst = d) (hs : Region.noSelect ops = true) (hf : Region.free md ops listed i = true) (hr : (Region.ready md ops listed).contains i = true)
    (hQ : ∀ c a w, Q (.panic c) (a.put oi.dst v) w → Q (.panic c) a w) (hy : YieldsIf P ops S oi v a) (hS : S w)
    (h : wpAnyH P md ops Q S fuel (listed.setIfInBounds i true) (a.put d v) w) : wpAnyH P md ops Q S (fuel + 1) listed a w := by
  subst hd
  exact wpAnyH_take hi hs hf hr hQ hy hS h

end Go.Proofs.YtndamiocmdnenaaGreat

/- Parts of a slice of bytes; a slice expression in a region that draws its order, and in one that does not. -/
namespace Go.Proofs.YtndamiocmdnenaaGreat
set_option linter.unusedVariables false
set_option maxRecDepth 100000
set_option linter.unusedSimpArgs false
open Go.RowKit

theorem yieldsIf_slice {P : Program} {ops : Array Oper} {S : World → Prop} {oi : Oper} {a : Act} (hw : Region.wanted oi (yielded ops a.tmps) = true) (t : TypeId) (x : Operand) (lo hi : Option Operand) (ho : oi.op = .slice t x lo hi none) (v : Value)
    (h : ∀ w, (Instr.sliceAt t (a.eval x) (lo.map a.eval) (hi.map a.eval) none).run P w = .ok v w) : YieldsIf P ops S oi v a :=
  .inl ⟨hw, fun w _ => by
    unfold execOp
    simp only [ho, Sem.run_bind, Option.map_none, h w, Result.andThen_ok, Sem.run_pure]⟩

/-- Where b[lo:] lies. -/
def tailA (A : Option Addr) (c lo : Nat) : Option Addr := if c = lo then A else A.map (·.add (lo * 1))
theorem tailA_none (A : Option Addr) (c lo : Nat) (h : tailA A c lo = none) : A = none := by
  unfold tailA at h
  split at h
  · exact h
  · cases A with
    | none => rfl
    | some a => cases h
theorem Rb.tail {w : World} {B : Nat} {A : Option Addr} {l : List UInt8} {c : Nat} (h : Rb w B A l) (lo : Nat) (hc : l.length ≤ c) : Rb w B (tailA A c lo) (l.drop lo) := by
  by_cases h0 : l.drop lo = []
  · left; exact h0
  · have hlo : lo < l.length := by
      rcases Nat.lt_or_ge lo l.length with h1 | h1
      · exact h1
      · exact absurd (List.drop_of_length_le h1) h0
    rcases h with h | ⟨b, o, e, hb, hcl⟩
    · rw [h] at hlo; simp at hlo
    · subst e
      have e2 : tailA (some ⟨b, o, none⟩) c lo = some ⟨b, o + lo, none⟩ := by
        unfold tailA
        rw [if_neg (by omega)]
        simp only [Option.map_some, Nat.mul_one, Addr.add]
        split <;> simp_all
      rw [e2]
      refine .inr ⟨b, o + lo, rfl, hb, fun i hi => ?_⟩
      have hi' : lo + i < l.length := by rw [List.length_drop] at hi; omega
      have := hcl (lo + i) hi'
      rw [← Nat.add_assoc] at this
      rw [this, List.getElem_drop]
theorem Rb.front {w : World} {B : Nat} {A : Option Addr} {l : List UInt8} (h : Rb w B A l) (n : Nat) : Rb w B A (l.take n) := by
  rcases h with h | ⟨b, o, e, hb, hc⟩
  · left; rw [h]; simp
  · refine .inr ⟨b, o, e, hb, fun i hi => ?_⟩
    have hi' : i < l.length := by rw [List.length_take] at hi; omega
    rw [hc i hi', List.getElem_take]
theorem slice_fr (A : Option Addr) (n c lo : Nat) (h : lo ≤ n) (hc : n ≤ c) (u : World) : (Instr.sliceAt 30 (.slice A n c) (some (.int .i64 (lo : Int))) none none).run Tryz.prog u = .ok (.slice (tailA A c lo) (n - lo) (c - lo)) u := by
  have h1 : (lo : Int) ≤ (n : Int) := by omega
  unfold tailA
  go_simp
/-- b[lo:] in a region that draws nothing. -/
theorem wpList_from {P : Program} {ops : Array Oper} {rest : List Oper} {o : Oper} {a : Act} {Q : Exit → Act → World → Prop} {w : World} (hgd : o.guard = none) (t : TypeId) (x lo : Operand) (ho : o.op = .slice t x (some lo) none none) (vx vl v : Value) (hx : a.eval x = vx) (hl : a.eval lo = vl)
    (hr : (Instr.sliceAt t vx (some vl) none none).run P w = .ok v w) (h : wpList P ops Q rest (a.put o.dst v) w) : wpList P ops Q (o :: rest) a w :=
  wpList_plain hgd fun _ hK => by
    unfold Oper.wp execOp
    simp only [ho, Option.map_some, Option.map_none, hx, hl, Sem.run_bind, hr, Result.andThen_ok, Sem.run_pure]
    exact hK _ _ h
end Go.Proofs.YtndamiocmdnenaaGreat

/- What comes in, opened into my own words. Nothing of the program is named here. -/
namespace Go.Proofs.YtndamiocmdnenaaGreat
set_option linter.unusedVariables false
set_option maxRecDepth 100000
set_option linter.unusedSimpArgs false
open Go.ChangeShapes Go.WideShapes Go.ChangeAt Go.RowKit

/-- A slice of bytes that came in. -/
structure InB (W : World) (A : Option Addr) (l : List UInt8) (n c : Nat) : Prop where
  rb : Rb W W.heap.size A l
  len : l.length = n
  cap : n ≤ c
  max : c ≤ maxLen
  nil_ : A = none → n = 0 ∧ c = 0

/-- A slice of integers that came in. -/
structure InN (k : IntKind) (W : World) (A : Option Addr) (l : List Int) (n c : Nat) : Prop where
  len : l.length = n
  cap : n ≤ c
  max : c ≤ maxLen
  nil_ : A = none → n = 0 ∧ c = 0
  at_ : n = 0 ∨ ∃ b o, A = some ⟨b, o, none⟩ ∧ b < W.heap.size ∧ ∀ i, (h : i < l.length) → W.cell? ⟨b, o + i, none⟩ = some (.int k l[i])
  wf : ∀ x ∈ l, (Lit.int k x).wf = true

theorem add_plain (b o i : Nat) : (⟨b, o, none⟩ : Addr).add i = ⟨b, o + i, none⟩ := by unfold Addr.add; split <;> simp_all

theorem open_nums {H : Type} {enc : TypeId × Value → H} {P : Program} {W : World} {A : Option Addr} {n c : Nat} {t e : TypeId} {k : IntKind} {d : DataW H} {p : List MemPlace} (ht : P.underlying t = some (.slice e)) (he : P.underlying e = some (.int k)) (hc : P.cellsOf e = 1)
    (h : DataW.Trod enc P W 0 (fun _ => true) true t (.slice A n c) d p) : ∃ l, InN k W A l n c := by
  obtain ⟨fuel, hf⟩ := h
  rcases open_ints ht he hc hf with ⟨hcs, _⟩ | ⟨x, ln, cp, zs, hcs, _, hl, hm, hz, _, hcell, hwz⟩
  · simp [Value.cells] at hcs
    obtain ⟨rfl, rfl, rfl⟩ := hcs
    exact ⟨[], ⟨rfl, Nat.le_refl _, by unfold maxLen; omega, fun _ => ⟨rfl, rfl⟩, .inl rfl, fun x hx => by cases hx⟩⟩
  · simp [Value.cells] at hcs
    obtain ⟨rfl, rfl, rfl⟩ := hcs
    have hzl : zs.length = c := by simpa using hz
    refine ⟨zs.take n, ⟨by rw [List.length_take]; omega, hl, hm, (fun h => by cases h), ?_, fun y hy => hwz y (List.mem_of_mem_take hy)⟩⟩
    by_cases h0 : n = 0
    · exact .inl h0
    · right
      obtain ⟨b, o, spot⟩ := x
      have hc0 := hcell 0 (by omega)
      have hspot : spot = none := by simpa [Addr.add] using World.cell?_spot hc0
      subst hspot
      refine ⟨b, o, rfl, ?_, fun i hi => ?_⟩
      · have := World.block_lt_of_cell? W _ hc0
        rw [add_plain] at this
        exact this
      · have hi' : i < zs.length := by rw [List.length_take] at hi; omega
        have := hcell i hi'
        rw [add_plain] at this
        rw [this]
        simp [List.getD, hi']

theorem open_bytes {H : Type} {enc : TypeId × Value → H} {P : Program} {W : World} {A : Option Addr} {n c : Nat} {t e : TypeId} {d : DataW H} {p : List MemPlace} (ht : P.underlying t = some (.slice e)) (he : P.underlying e = some (.int .u8)) (hc : P.cellsOf e = 1)
    (h : DataW.Trod enc P W 0 (fun _ => true) true t (.slice A n c) d p) : ∃ l, InB W A l n c := by
  obtain ⟨zs, hz⟩ := open_nums ht he hc h
  refine ⟨zs.map fun z => UInt8.ofNat z.toNat, ⟨?_, by rw [List.length_map]; exact hz.len, hz.cap, hz.max, hz.nil_⟩⟩
  rcases hz.at_ with h0 | ⟨b, o, e1, hb, hcell⟩
  · left
    have : zs = [] := List.eq_nil_of_length_eq_zero (by rw [hz.len, h0])
    rw [this]; rfl
  · right
    refine ⟨b, o, e1, hb, fun i hi => ?_⟩
    have hi' : i < zs.length := by simpa using hi
    rw [hcell i hi']
    have hw := hz.wf zs[i] (List.getElem_mem hi')
    have hr : 0 ≤ zs[i] ∧ zs[i] < 256 := by
      have e1 : IntKind.u8.min = 0 := by decide
      have e2 : IntKind.u8.max = 255 := by decide
      simp only [Lit.wf, e1, e2, Bool.and_eq_true, decide_eq_true_eq] at hw
      omega
    have : ((UInt8.ofNat (zs[i].toNat)).toNat : Int) = zs[i] := by
      rw [UInt8.toNat_ofNat']
      omega
    simp only [List.getElem_map]
    rw [this]

end Go.Proofs.YtndamiocmdnenaaGreat

/- The digits of a number, as lists: plain mathematics. -/
namespace Go.Proofs.YtndamiocmdnenaaGreat
set_option linter.unusedVariables false
set_option maxRecDepth 100000
set_option linter.unusedSimpArgs false

/-- The cells of the row of L digits, of which the last k are told. -/
def dcells (b n L k : Nat) : Array Value := ((List.range L).map fun j => Value.int .u8 (if L ≤ j + k then ((n / b ^ (L - 1 - j) % b : Nat) : Int) else 0)).toArray

theorem dcells_none (b n L : Nat) : dcells b n L 0 = Array.replicate L (.int .u8 0) := by
  apply Array.ext
  · simp [dcells]
  · intro i h1 h2
    have : i < L := by simpa [dcells] using h1
    simp [dcells]; omega

theorem dcells_size (b n L k : Nat) : (dcells b n L k).size = L := by simp [dcells]

theorem dcells_at (b n L k i : Nat) (h : i < L) : (dcells b n L k)[i]? = some (.int .u8 (if L ≤ i + k then ((n / b ^ (L - 1 - i) % b : Nat) : Int) else 0)) := by
  simp [dcells, h]

theorem dcells_set (b n L k : Nat) (h : k < L) : (dcells b n L k).setIfInBounds (L - 1 - k) (.int .u8 ((n / b ^ k % b : Nat) : Int)) = dcells b n L (k + 1) := by
  apply Array.ext
  · simp [dcells]
  · intro i h1 h2
    have hi : i < L := by simpa [dcells] using h2
    rw [Array.getElem_setIfInBounds (by simpa [dcells] using hi)]
    by_cases he : L - 1 - k = i
    · subst he
      have e1 : L - 1 - (L - 1 - k) = k := by omega
      have e2 : L ≤ L - 1 - k + (k + 1) := by omega
      simp [dcells, e1, e2]
    · rw [if_neg he]
      have : (L ≤ i + k) ↔ (L ≤ i + (k + 1)) := by omega
      simp [dcells, this]

/-- The digits of n of base b, the highest first. -/
def dg (b n : Nat) : List Nat := if h : b < 2 ∨ n < b then [n] else dg b (n / b) ++ [n % b]
termination_by n
decreasing_by
  have : ¬ (b < 2 ∨ n < b) := h
  exact Nat.div_lt_self (by omega) (by omega)

/-- A number below b^L, and not below b^(L-1) but for L = 1, has L digits, each what division tells. -/
theorem dg_eq (b : Nat) (hb : 2 ≤ b) : ∀ (L n : Nat), 1 ≤ L → n < b ^ L → (L = 1 ∨ b ^ (L - 1) ≤ n) → dg b n = (List.range L).map fun j => n / b ^ (L - 1 - j) % b := by
  intro L
  induction L with
  | zero => intro n h; omega
  | succ L ih =>
    intro n _ hlt hge
    rw [dg]
    by_cases hL : L = 0
    · subst hL
      have : n < b := by simpa using hlt
      simp [this, Nat.mod_eq_of_lt this]
    · have hge' : b ^ L ≤ n := by rcases hge with h | h; omega; simpa using h
      have hbn : b ≤ n := Nat.le_trans (by calc b = b ^ 1 := by simp
                                            _ ≤ b ^ L := Nat.pow_le_pow_right (by omega) (by omega)) hge'
      have hn : ¬ (b < 2 ∨ n < b) := by omega
      rw [dif_neg hn, ih (n / b) (by omega) (by rw [Nat.div_lt_iff_lt_mul (by omega)]; rw [Nat.pow_succ] at hlt; exact hlt)]
      · rw [List.range_succ, List.map_append]
        congr 1
        · apply List.map_congr_left
          intro j hj
          have hj' : j < L := by simpa using hj
          rw [Nat.div_div_eq_div_mul, ← Nat.pow_succ']
          have : L - 1 - j + 1 = L + 1 - 1 - j := by omega
          rw [Nat.succ_eq_add_one, this]
        · simp
      · by_cases h1 : L = 1
        · exact .inl h1
        · refine .inr ?_
          rw [Nat.le_div_iff_mul_le (by omega), ← Nat.pow_succ]
          have : (L - 1).succ = L := by omega
          rw [this]; exact hge'

theorem dg_lt (b : Nat) (hb : 2 ≤ b) : ∀ (n : Nat), ∀ d ∈ dg b n, d < b := by
  intro n
  induction n using Nat.strongRecOn with
  | ind n ih =>
    rw [dg]
    by_cases h : b < 2 ∨ n < b
    · rw [dif_pos h]; intro d hd; simp at hd; omega
    · rw [dif_neg h]
      intro d hd
      rw [List.mem_append] at hd
      rcases hd with hd | hd
      · exact ih (n / b) (Nat.div_lt_self (by omega) (by omega)) d hd
      · simp at hd; rw [hd]; exact Nat.mod_lt _ (by omega)

theorem dg_pos (b n : Nat) : 0 < (dg b n).length := by
  rw [dg]; split <;> simp


/-- A number's bytes. -/
def putB (n : Nat) : List UInt8 := (if n < 128 then [] else (dg 128 (n / 128)).map fun d => UInt8.ofNat (d + 128)) ++ [UInt8.ofNat (n % 128)]
/-- A number's decimals. -/
def decB (n : Nat) : List UInt8 := (dg 10 n).map fun d => UInt8.ofNat (d + 48)

/-- The cells of which the first k are marked. -/
def pcells (a n b L k : Nat) : Array Value := ((List.range L).map fun j => Value.int .u8 (if j < k then ((n / b ^ (L - 1 - j) % b + a : Nat) : Int) else ((n / b ^ (L - 1 - j) % b : Nat) : Int))).toArray

theorem pcells_zero (a n b L : Nat) : pcells a n b L 0 = dcells b n L L := by
  unfold pcells dcells
  congr 1
  apply List.map_congr_left
  intro j hj
  rw [if_neg (by omega), if_pos (by omega)]

theorem pcells_at (a n b L k i : Nat) (h : i < L) : (pcells a n b L k)[i]? = some (.int .u8 (if i < k then ((n / b ^ (L - 1 - i) % b + a : Nat) : Int) else ((n / b ^ (L - 1 - i) % b : Nat) : Int))) := by
  simp [pcells, h]

theorem pcells_set (a n b L k : Nat) (h : k < L) : (pcells a n b L k).setIfInBounds k (.int .u8 ((n / b ^ (L - 1 - k) % b + a : Nat) : Int)) = pcells a n b L (k + 1) := by
  apply Array.ext
  · simp [pcells]
  · intro i h1 h2
    have hi : i < L := by simpa [pcells] using h2
    rw [Array.getElem_setIfInBounds (by simpa [pcells] using hi)]
    by_cases he : k = i
    · subst he
      simp [pcells]
    · rw [if_neg he]
      have : (i < k) ↔ (i < k + 1) := by omega
      simp [pcells, this]

theorem u8_ofNat (d : Nat) (h : d < 256) : (UInt8.ofNat d).toNat = d := by simp [UInt8.toNat_ofNat']; omega

theorem pcells_dec (n L : Nat) (h1 : 1 ≤ L) (hlt : n < 10 ^ L) (hge : L = 1 ∨ 10 ^ (L - 1) ≤ n) : pcells 48 n 10 L L = bcells (decB n) := by
  unfold pcells bcells decB
  rw [dg_eq 10 (by omega) L n h1 hlt hge, List.map_map, List.map_map]
  congr 1
  apply List.map_congr_left
  intro j hj
  have hj' : j < L := by simpa using hj
  have := Nat.mod_lt (n / 10 ^ (L - 1 - j)) (by omega : 10 > 0)
  simp only [Function.comp, if_pos hj']
  rw [u8, u8_ofNat _ (by omega)]

theorem pcells_put (n L : Nat) (h1 : 1 ≤ L) (hlt : n < 128 ^ L) (hge : L = 1 ∨ 128 ^ (L - 1) ≤ n) : pcells 128 n 128 L (L - 1) = bcells (putB n) := by
  obtain ⟨K, rfl⟩ : ∃ K, L = K + 1 := ⟨L - 1, by omega⟩
  unfold pcells bcells putB
  rw [List.range_succ, List.map_append, List.map_append]
  congr 1
  congr 1
  · by_cases hn : n < 128
    · have hK : K = 0 := by
        rcases hge with h | h
        · omega
        · rcases Nat.eq_zero_or_pos K with h0 | h0
          · exact h0
          · have : 128 ^ 1 ≤ 128 ^ K := Nat.pow_le_pow_right (by omega) h0
            have h' : 128 ^ K ≤ n := by simpa using h
            omega
      subst hK
      simp [hn]
    · have hK : 1 ≤ K := by
        rcases Nat.eq_zero_or_pos K with h0 | h0
        · subst h0; simp at hlt; omega
        · exact h0
      have hge' : 128 ^ K ≤ n := by rcases hge with h | h; omega; simpa using h
      rw [if_neg hn, dg_eq 128 (by omega) K (n / 128) hK (by rw [Nat.div_lt_iff_lt_mul (by omega)]; rw [Nat.pow_succ] at hlt; exact hlt), List.map_map, List.map_map]
      · apply List.map_congr_left
        intro j hj
        have hj' : j < K := by simpa using hj
        have e : n / 128 / 128 ^ (K - 1 - j) = n / 128 ^ (K - j) := by
          rw [Nat.div_div_eq_div_mul, ← Nat.pow_succ']
          have : (K - 1 - j).succ = K - j := by omega
          rw [this]
        have := Nat.mod_lt (n / 128 ^ (K - j)) (by omega : 128 > 0)
        simp only [Function.comp, Nat.add_sub_cancel, if_pos hj']
        rw [e, u8, u8_ofNat _ (by omega)]
      · by_cases hk1 : K = 1
        · exact .inl hk1
        · refine .inr ?_
          rw [Nat.le_div_iff_mul_le (by omega), ← Nat.pow_succ]
          have : (K - 1).succ = K := by omega
          rw [this]; exact hge'
  · simp
    omega

theorem putB_length (n L : Nat) (h1 : 1 ≤ L) (hlt : n < 128 ^ L) (hge : L = 1 ∨ 128 ^ (L - 1) ≤ n) : (putB n).length = L := by
  have h := congrArg Array.size (pcells_put n L h1 hlt hge)
  rw [bcells_size] at h
  rw [← h]; simp [pcells]
theorem decB_length (n L : Nat) (h1 : 1 ≤ L) (hlt : n < 10 ^ L) (hge : L = 1 ∨ 10 ^ (L - 1) ≤ n) : (decB n).length = L := by
  have h := congrArg Array.size (pcells_dec n L h1 hlt hge)
  rw [bcells_size] at h
  rw [← h]; simp [pcells]

end Go.Proofs.YtndamiocmdnenaaGreat

/- Greater numbers have greater bytes, or more: plain mathematics. -/
namespace Go.Proofs.YtndamiocmdnenaaGreat
set_option linter.unusedVariables false
set_option maxRecDepth 100000
set_option linter.unusedSimpArgs false

theorem dg_small {b x : Nat} (h : x < b) : dg b x = [x] := by rw [dg, dif_pos (.inr h)]
theorem dg_big {b x : Nat} (hb : 2 ≤ b) (h : ¬ x < b) : dg b x = dg b (x / b) ++ [x % b] := by
  rw [dg, dif_neg (by omega)]

/-- Fewer, or as many and less. -/
def slx (a b : List UInt8) : Bool := decide (a.length < b.length) || (a.length == b.length && Op.bytesLess a b)

theorem bytesLess_snoc : ∀ (x y : List UInt8) (c d : UInt8), x.length = y.length → Op.bytesLess (x ++ [c]) (y ++ [d]) = (Op.bytesLess x y || (x == y && decide (c < d))) := by
  intro x
  induction x with
  | nil =>
    intro y c d h
    have : y = [] := List.eq_nil_of_length_eq_zero h.symm
    subst this
    simp [Op.bytesLess]
  | cons a x ih =>
    intro y c d h
    cases y with
    | nil => simp at h
    | cons b y =>
      have h' : x.length = y.length := by simpa using h
      simp only [List.cons_append, Op.bytesLess, ih y c d h']
      by_cases hab : a = b
      · subst hab
        simp
      · have e1 : (a == b) = false := by simpa using hab
        simp [e1]

/-- Rows that end in one byte more each. -/
theorem slx_snoc (x y : List UInt8) (c d : UInt8) : slx (x ++ [c]) (y ++ [d]) = (slx x y || (x == y && decide (c < d))) := by
  unfold slx
  rw [List.length_append, List.length_append]
  by_cases h : x.length = y.length
  · rw [bytesLess_snoc x y c d h]
    have h1 : ¬ x.length < y.length := by omega
    simp [h]
  · have h2 : ¬ x = y := fun e => h (by rw [e])
    have e1 : (x == y) = false := by simpa using h2
    have e2 : (x.length == y.length) = false := by simpa using h
    simp [e1, e2]

section
variable (b : Nat) (hb : 2 ≤ b) (f g : Nat → UInt8) (hf : ∀ x y, x < b → y < b → (f x < f y ↔ x < y)) (hg : ∀ x y, x < b → y < b → (g x < g y ↔ x < y))
include hb hf

theorem map_inj : ∀ (x y : Nat), (dg b x).map f = (dg b y).map f → x = y := by
  have inj : ∀ x y, x < b → y < b → f x = f y → x = y := by
    intro x y hx hy h
    rcases Nat.lt_trichotomy x y with h1 | h1 | h1
    · have := (hf x y hx hy).2 h1; rw [h] at this; exact absurd this (by simp)
    · exact h1
    · have := (hf y x hy hx).2 h1; rw [h] at this; exact absurd this (by simp)
  intro x
  induction x using Nat.strongRecOn with
  | ind x ih =>
    intro y h
    by_cases hx : x < b <;> by_cases hy : y < b
    · rw [dg_small hx, dg_small hy] at h
      simp at h
      exact inj x y hx hy h
    · rw [dg_small hx, dg_big hb hy] at h
      have hl := congrArg List.length h
      have hp := dg_pos b (y / b)
      simp only [List.map_append, List.length_append, List.length_map, List.length_cons, List.length_nil] at hl
      omega
    · rw [dg_big hb hx, dg_small hy] at h
      have hl := congrArg List.length h
      have hp := dg_pos b (x / b)
      simp only [List.map_append, List.length_append, List.length_map, List.length_cons, List.length_nil] at hl
      omega
    · rw [dg_big hb hx, dg_big hb hy, List.map_append, List.map_append] at h
      have hl := congrArg List.length h
      simp only [List.length_append, List.length_map, List.length_cons, List.length_nil] at hl
      obtain ⟨h1, h2⟩ := List.append_inj h (by simp; omega)
      have e1 := ih (x / b) (Nat.div_lt_self (by omega) (by omega)) (y / b) h1
      simp at h2
      have e2 := inj (x % b) (y % b) (Nat.mod_lt _ (by omega)) (Nat.mod_lt _ (by omega)) h2
      rw [← Nat.div_add_mod x b, ← Nat.div_add_mod y b, e1, e2]

theorem slx_dg : ∀ (x y : Nat), slx ((dg b x).map f) ((dg b y).map f) = decide (x < y) := by
  intro x
  induction x using Nat.strongRecOn with
  | ind x ih =>
    intro y
    by_cases hx : x < b <;> by_cases hy : y < b
    · rw [dg_small hx, dg_small hy]
      have := hf x y hx hy
      by_cases h : x < y
      · have h1 := this.2 h
        simp [slx, Op.bytesLess, h, h1]
      · have h1 : ¬ f x < f y := fun h' => h (this.1 h')
        simp [slx, Op.bytesLess, h, h1]
    · have hl : (dg b y).length = (dg b (y / b)).length + 1 := by rw [dg_big hb hy]; simp
      have := dg_pos b (y / b)
      have hxl : (dg b x).length = 1 := by rw [dg_small hx]; rfl
      have h : x < y := by omega
      simp [slx, hl, hxl, h, this]
    · have hl : (dg b x).length = (dg b (x / b)).length + 1 := by rw [dg_big hb hx]; simp
      have := dg_pos b (x / b)
      have hyl : (dg b y).length = 1 := by rw [dg_small hy]; rfl
      have h : ¬ x < y := by omega
      have h2 : ¬ (dg b (x / b)).length = 0 := by omega
      simp [slx, hl, hyl, h, h2]
    · have ex := dg_big hb hx
      have ey := dg_big hb hy
      rw [ex, ey, List.map_append, List.map_append]
      show slx (_ ++ [f (x % b)]) (_ ++ [f (y % b)]) = _
      rw [slx_snoc, ih (x / b) (Nat.div_lt_self (by omega) (by omega)) (y / b)]
      have hm := hf (x % b) (y % b) (Nat.mod_lt _ (by omega)) (Nat.mod_lt _ (by omega))
      have dx := Nat.div_add_mod x b
      have dy := Nat.div_add_mod y b
      have mx := Nat.mod_lt x (by omega : b > 0)
      have my := Nat.mod_lt y (by omega : b > 0)
      rw [Bool.eq_iff_iff]
      simp only [Bool.or_eq_true, Bool.and_eq_true, decide_eq_true_eq, beq_iff_eq]
      rw [hm]
      constructor
      · rintro (h | ⟨h, h'⟩)
        · have : b * (x / b) + b ≤ b * (y / b) := by rw [← Nat.mul_succ]; exact Nat.mul_le_mul_left b h
          omega
        · have := map_inj b hb f hf _ _ h
          rw [this] at dx
          omega
      · intro h
        rcases Nat.lt_trichotomy (x / b) (y / b) with h1 | h1 | h1
        · exact .inl h1
        · right
          refine ⟨by rw [h1], ?_⟩
          rw [h1] at dx
          omega
        · have : b * (y / b) + b ≤ b * (x / b) := by rw [← Nat.mul_succ]; exact Nat.mul_le_mul_left b h1
          omega

include hg

/-- Rows whose last digit is told otherwise. -/
theorem slx_mark (x y : Nat) : slx ((if x < b then [] else (dg b (x / b)).map f) ++ [g (x % b)]) ((if y < b then [] else (dg b (y / b)).map f) ++ [g (y % b)]) = decide (x < y) := by
  rw [slx_snoc]
  have hm := hg (x % b) (y % b) (Nat.mod_lt _ (by omega)) (Nat.mod_lt _ (by omega))
  have dx := Nat.div_add_mod x b
  have dy := Nat.div_add_mod y b
  have mx := Nat.mod_lt x (by omega : b > 0)
  have my := Nat.mod_lt y (by omega : b > 0)
  rw [Bool.eq_iff_iff]
  simp only [Bool.or_eq_true, Bool.and_eq_true, decide_eq_true_eq, beq_iff_eq]
  rw [hm]
  by_cases hx : x < b <;> by_cases hy : y < b
  · rw [if_pos hx, if_pos hy, Nat.mod_eq_of_lt hx, Nat.mod_eq_of_lt hy]
    simp [slx, Op.bytesLess]
  · rw [if_pos hx, if_neg hy]
    have := dg_pos b (y / b)
    have h : x < y := by omega
    simp [slx, h, this]
  · rw [if_neg hx, if_pos hy]
    have := dg_pos b (x / b)
    have h : ¬ x < y := by omega
    have h2 : dg b (x / b) ≠ [] := fun e => by rw [e] at this; simp at this
    simp [slx, h, h2, Op.bytesLess]
  · rw [if_neg hx, if_neg hy, slx_dg b hb f hf]
    simp only [decide_eq_true_eq]
    constructor
    · rintro (h | ⟨h, h'⟩)
      · have : b * (x / b) + b ≤ b * (y / b) := by rw [← Nat.mul_succ]; exact Nat.mul_le_mul_left b h
        omega
      · have := map_inj b hb f hf _ _ h
        rw [this] at dx
        omega
    · intro h
      rcases Nat.lt_trichotomy (x / b) (y / b) with h1 | h1 | h1
      · exact .inl h1
      · right
        refine ⟨by rw [h1], ?_⟩
        rw [h1] at dx
        omega
      · have : b * (y / b) + b ≤ b * (x / b) := by rw [← Nat.mul_succ]; exact Nat.mul_le_mul_left b h1
        omega
end

theorem ofNat_lt (a x y : Nat) (hx : x + a < 256) (hy : y + a < 256) : (UInt8.ofNat (x + a) < UInt8.ofNat (y + a)) ↔ x < y := by
  rw [UInt8.lt_iff_toNat_lt, u8_ofNat _ hx, u8_ofNat _ hy]; omega

theorem putB_less (x y : Nat) : slx (putB x) (putB y) = decide (x < y) :=
  slx_mark 128 (by omega) (fun d => UInt8.ofNat (d + 128)) (fun d => UInt8.ofNat d) (fun x y hx hy => ofNat_lt 128 x y (by omega) (by omega)) (fun x y hx hy => ofNat_lt 0 x y (by omega) (by omega)) x y
theorem decB_less (x y : Nat) : slx (decB x) (decB y) = decide (x < y) :=
  slx_dg 10 (by omega) (fun d => UInt8.ofNat (d + 48)) (fun x y hx hy => ofNat_lt 48 x y (by omega) (by omega)) x y
theorem putB_inj (x y : Nat) (h : putB x = putB y) : x = y := by
  have h1 := putB_less x y
  have h2 := putB_less y x
  rw [h] at h1 h2
  rw [h1] at h2
  have := decide_eq_decide.1 h2
  omega
theorem decB_inj (x y : Nat) (h : decB x = decB y) : x = y :=
  map_inj 10 (by omega) (fun d => UInt8.ofNat (d + 48)) (fun x y hx hy => ofNat_lt 48 x y (by omega) (by omega)) x y h

theorem dg_head' (b : Nat) (hb : 2 ≤ b) : ∀ n : Nat, 0 < n → ∃ d r, dg b n = d :: r ∧ d ≠ 0 := by
  intro n
  induction n using Nat.strongRecOn with
  | ind n ih =>
    intro hn
    rw [dg]
    by_cases h : b < 2 ∨ n < b
    · rw [dif_pos h]; exact ⟨n, [], rfl, by omega⟩
    · rw [dif_neg h]
      obtain ⟨d, r, e, hd⟩ := ih (n / b) (Nat.div_lt_self (by omega) (by omega)) (Nat.div_pos (by omega) (by omega))
      exact ⟨d, r ++ [n % b], by rw [e]; rfl, hd⟩

/-- A text of its bytes. -/
def bs (l : List UInt8) : ByteArray := ⟨l.toArray⟩
theorem bs_list (l : List UInt8) : (bs l).toList = l := by rw [ByteArray.toList_eq]; simp [bs]
theorem bs_size (l : List UInt8) : (bs l).size = l.length := by simp [bs, ByteArray.size]
theorem bs_inj {a b : List UInt8} (h : bs a = bs b) : a = b := by rw [← bs_list a, ← bs_list b, h]
theorem bs_of (s : ByteArray) : bs s.data.toList = s := by cases s; simp [bs]
theorem bs_data (l : List UInt8) : (bs l).data.toList = l := by simp [bs]

theorem dg_len (b : Nat) (hb : 2 ≤ b) : ∀ n, (dg b n).length ≤ n + 1 := by
  intro n
  induction n using Nat.strongRecOn with
  | ind n ih =>
    by_cases h : n < b
    · rw [dg_small h]; simp
    · have := ih (n / b) (Nat.div_lt_self (by omega) (by omega))
      have h2 : n / b < n := Nat.div_lt_self (by omega) (by omega)
      rw [dg_big hb h, List.length_append]; simp; omega
theorem decB_len (x : Nat) (hx : x ≤ 1099511627776) : (decB x).length ≤ 140737488355328 := by
  have := dg_len 10 (by omega) x
  unfold decB; rw [List.length_map]; omega
theorem putB_len (x : Nat) (hx : x ≤ 1099511627776) : (putB x).length ≤ 140737488355328 := by
  have := dg_len 128 (by omega) (x / 128)
  unfold putB
  split <;> simp <;> omega
end Go.Proofs.YtndamiocmdnenaaGreat

/- string(b) in a region that draws its order. Nothing of the program is named here. -/
namespace Go.Proofs.YtndamiocmdnenaaGreat
set_option linter.unusedVariables false
set_option maxRecDepth 100000
set_option linter.unusedSimpArgs false
open Go.RowKit

theorem yieldsIf_conv {P : Program} {ops : Array Oper} {S : World → Prop} {oi : Oper} {a : Act} (hw : Region.wanted oi (yielded ops a.tmps) = true) (src e dst : TypeId) (x : Operand) (ho : oi.op = .convert src dst x)
    (A : Option Addr) (n c : Nat) (l : List UInt8) (hx : a.eval x = .slice A n c) (hn : l.length = n) {B : World → Nat} (hR : ∀ w, S w → Rb w (B w) A l) (hs : P.underlying src = some (.slice e)) (he : P.underlying e = some (.int .u8)) (hd : P.underlying dst = some .string) : YieldsIf P ops S oi (.string (bs l)) a :=
  .inl ⟨hw, fun w hw' => by
    unfold execOp
    simp only [ho, hx, Sem.run_bind, str_of (hR w hw') src e dst hs he hd n c hn, Result.andThen_ok, Sem.run_pure, bs]⟩
end Go.Proofs.YtndamiocmdnenaaGreat
