/- Names with more behind them: plain mathematics. -/
import Derived.Test.YtmdijhfkobcbjaaSyn3
import Derived.Test.YtmdijhfkobcbjaaRefDec
namespace Go.Proofs.Ytmdijhfkobcbjaa
set_option linter.unusedVariables false
set_option linter.unusedSimpArgs false

def letB (c : UInt8) : Bool := (decide (97 ≤ c.toNat) && decide (c.toNat ≤ 122)) || (decide (48 ≤ c.toNat) && decide (c.toNat ≤ 57))
def nameL (l : List UInt8) : Bool := decide (1 ≤ l.length) && decide (l.length ≤ 20) && decide ((l.getD 0 0).toNat ≠ 45) && decide ((l.getD (l.length - 1) 0).toNat ≠ 45) && l.all nmdB
theorem nameB_L (l : List UInt8) : nameB (bs l) = nameL l := by
  unfold nameB nameL
  rw [bs_data, bs_size]
theorem let_nmd (c : UInt8) : letB c = (nmdB c && decide (c.toNat ≠ 45)) := by
  unfold letB nmdB
  rw [Bool.eq_iff_iff]
  simp
  omega
theorem getD_left (l r : List UInt8) (h : l ≠ []) : (l ++ r).getD 0 0 = l.getD 0 0 := by
  cases l with
  | nil => exact absurd rfl h
  | cons x l => rfl
theorem getD_last (l : List UInt8) (c : UInt8) : (l ++ [c]).getD ((l ++ [c]).length - 1) 0 = c := by
  rw [List.length_append, List.length_singleton, Nat.add_sub_cancel]
  simp [List.getD]
structure NameP (l : List UInt8) : Prop where
  one : 1 ≤ l.length
  most : l.length ≤ 20
  first : (l.getD 0 0).toNat ≠ 45
  last : (l.getD (l.length - 1) 0).toNat ≠ 45
  all : l.all nmdB = true
theorem name_p {l : List UInt8} (h : nameL l = true) : NameP l := by
  unfold nameL at h
  simp only [Bool.and_eq_true, decide_eq_true_eq] at h
  exact ⟨h.1.1.1.1, h.1.1.1.2, h.1.1.2, h.1.2, h.2⟩
theorem NameP.ne {l : List UInt8} (h : NameP l) : l ≠ [] := by
  intro e; have := h.one; rw [e] at this; simp at this

theorem name_more (l : List UInt8) (c : UInt8) (h : nameL l = true) : nameL (l ++ [c]) = (letB c && decide (l.length < 20)) := by
  have p := name_p h
  unfold nameL
  rw [getD_last, getD_left l _ p.ne, List.all_append, p.all, let_nmd, decide_eq_true p.first, List.length_append, List.length_singleton]
  generalize hb : nmdB c = b
  rw [Bool.eq_iff_iff]
  cases b <;> simp [hb] <;> omega
theorem name_line (l : List UInt8) (h : nameL l = true) : nameL (l ++ [45]) = false := by
  rw [name_more l 45 h]
  have : letB 45 = false := by decide
  rw [this]; rfl
theorem line_name (l : List UInt8) : nameL (45 :: l) = false := by
  unfold nameL
  simp
theorem name_line_more (l : List UInt8) (c : UInt8) (h : nameL l = true) : nameL (l ++ [45] ++ [c]) = (letB c && decide (l.length < 19)) := by
  have p := name_p h
  have e45 : nmdB 45 = true := by decide
  unfold nameL
  rw [getD_last, List.append_assoc, getD_left l _ p.ne, List.all_append, List.all_append, p.all, let_nmd, decide_eq_true p.first, List.length_append, List.length_append, List.length_singleton, List.length_singleton]
  generalize hb : nmdB c = b
  rw [Bool.eq_iff_iff]
  cases b <;> simp [hb, e45] <;> omega
theorem name_one (c : UInt8) : nameL [c] = letB c := by
  rw [let_nmd]
  unfold nameL
  rw [Bool.eq_iff_iff]
  simp
  constructor
  · rintro ⟨h1, h2⟩; exact ⟨h2, h1⟩
  · rintro ⟨h1, h2⟩; exact ⟨h2, h1⟩
end Go.Proofs.Ytmdijhfkobcbjaa
