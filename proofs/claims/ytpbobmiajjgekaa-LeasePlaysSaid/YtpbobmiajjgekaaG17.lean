/- StrOne, RefDec, SNameM, Info, Dig, Deci, Syn8: texts of this seat, one behind the other. -/
import Derived.Test.YtpbobmiajjgekaaG5
import Derived.Test.YtpbobmiajjgekaaRows
import Derived.Test.YtpbobmiajjgekaaG1
import Derived.Test.YtpbobmiajjgekaaG2
import Derived.Test.YtpbobmiajjgekaaShelf
/- Small texts. -/
namespace Go.Proofs.Ytpbobmiajjgekaa
set_option linter.unusedVariables false
set_option maxRecDepth 100000
set_option linter.unusedSimpArgs false
open Go.RowKit

/-- One byte as a text. -/
theorem str_one {wx : World} {c : UInt8} {v : Int} (hv : v = (c.toNat : Int)) : (convert 79 9 (.slice (some ⟨wx.heap.size, 0, none⟩) 1 1)).run Try.prog (wx.alloc (.cells #[.int .u8 v] 5)) = .ok (.string ⟨#[c]⟩) (wx.alloc (.cells #[.int .u8 v] 5)) :=
  str_of (P := Try.prog) (Rb.one (c := c) rfl hv) 79 5 9 Try.underlying79 Try.underlying5 Try.underlying9 1 1 rfl

theorem bs_append (a b : List UInt8) : bs a ++ bs b = bs (a ++ b) := by
  have h : (bs a ++ bs b).data = (bs (a ++ b)).data := by simp [bs]
  cases h1 : bs a ++ bs b with
  | mk d1 => rw [h1] at h; cases h2 : bs (a ++ b) with
    | mk d2 => rw [h2] at h; simp at h; rw [h]
end Go.Proofs.Ytpbobmiajjgekaa

/- The document's answers for numbers: Decimal: its contract. -/
namespace Go.Proofs.Ytpbobmiajjgekaa
set_option linter.unusedVariables false
set_option maxRecDepth 100000
set_option linter.unusedSimpArgs false
open Go.RowKit

/-- The decimals of a number; none of 0. -/
def mk10 (r : Nat) : List UInt8 := if r = 0 then [] else decB r
theorem decB_mk (n : Nat) : decB n = mk10 (n / 10) ++ [UInt8.ofNat (n % 10 + 48)] := by
  unfold mk10 decB
  by_cases h : n < 10
  · rw [dg_small h, Nat.div_eq_of_lt h, Nat.mod_eq_of_lt h]; rfl
  · have : n / 10 ≠ 0 := by have := Nat.div_pos (by omega : 10 ≤ n) (by omega); omega
    rw [dg_big (by omega) h, if_neg this, List.map_append]; rfl

end Go.Proofs.Ytpbobmiajjgekaa

/- Names with more behind them: plain mathematics. -/
namespace Go.Proofs.Ytpbobmiajjgekaa
set_option linter.unusedVariables false
set_option maxRecDepth 100000
set_option linter.unusedSimpArgs false

def letB (c : UInt8) : Bool := (decide (97 ≤ c.toNat) && decide (c.toNat ≤ 122)) || (decide (48 ≤ c.toNat) && decide (c.toNat ≤ 57))
def nameL (l : List UInt8) : Bool := decide (1 ≤ l.length) && decide (l.length ≤ 20) && decide ((l.getD 0 0).toNat ≠ 45) && decide ((l.getD (l.length - 1) 0).toNat ≠ 45) && l.all nmdB
theorem nameB_L (l : List UInt8) : nameB (bs l) = nameL l := by
  unfold nameB nameL
  rw [bs_data, bs_size]
theorem let_nmd (c : UInt8) : letB c = (nmdB c && decide (c.toNat ≠ 45)) := by
  unfold letB nmdB
  rw [Bool.eq_iff_iff]
  simp
  omega
theorem getD_leftS (l r : List UInt8) (h : l ≠ []) : (l ++ r).getD 0 0 = l.getD 0 0 := by
  cases l with
  | nil => exact absurd rfl h
  | cons x l => rfl
theorem getD_last (l : List UInt8) (c : UInt8) : (l ++ [c]).getD ((l ++ [c]).length - 1) 0 = c := by
  rw [List.length_append, List.length_singleton, Nat.add_sub_cancel]
  simp [List.getD]
structure NameP (l : List UInt8) : Prop where
  one : 1 ≤ l.length
  most : l.length ≤ 20
  first : (l.getD 0 0).toNat ≠ 45
  last : (l.getD (l.length - 1) 0).toNat ≠ 45
  all : l.all nmdB = true
theorem name_p {l : List UInt8} (h : nameL l = true) : NameP l := by
  unfold nameL at h
  simp only [Bool.and_eq_true, decide_eq_true_eq] at h
  exact ⟨h.1.1.1.1, h.1.1.1.2, h.1.1.2, h.1.2, h.2⟩
theorem NameP.ne {l : List UInt8} (h : NameP l) : l ≠ [] := by
  intro e; have := h.one; rw [e] at this; simp at this

theorem name_more (l : List UInt8) (c : UInt8) (h : nameL l = true) : nameL (l ++ [c]) = (letB c && decide (l.length < 20)) := by
  have p := name_p h
  unfold nameL
  rw [getD_last, getD_leftS l _ p.ne, List.all_append, p.all, let_nmd, decide_eq_true p.first, List.length_append, List.length_singleton]
  generalize hb : nmdB c = b
  rw [Bool.eq_iff_iff]
  cases b <;> simp [hb] <;> omega
theorem name_line (l : List UInt8) (h : nameL l = true) : nameL (l ++ [45]) = false := by
  rw [name_more l 45 h]
  have : letB 45 = false := by decide
  rw [this]; rfl
theorem line_name (l : List UInt8) : nameL (45 :: l) = false := by
  unfold nameL
  simp
theorem name_line_more (l : List UInt8) (c : UInt8) (h : nameL l = true) : nameL (l ++ [45] ++ [c]) = (letB c && decide (l.length < 19)) := by
  have p := name_p h
  have e45 : nmdB 45 = true := by decide
  unfold nameL
  rw [getD_last, List.append_assoc, getD_leftS l _ p.ne, List.all_append, List.all_append, p.all, let_nmd, decide_eq_true p.first, List.length_append, List.length_append, List.length_singleton, List.length_singleton]
  generalize hb : nmdB c = b
  rw [Bool.eq_iff_iff]
  cases b <;> simp [hb, e45] <;> omega
theorem name_one (c : UInt8) : nameL [c] = letB c := by
  rw [let_nmd]
  unfold nameL
  rw [Bool.eq_iff_iff]
  simp
  constructor
  · rintro ⟨h1, h2⟩; exact ⟨h2, h1⟩
  · rintro ⟨h1, h2⟩; exact ⟨h2, h1⟩
end Go.Proofs.Ytpbobmiajjgekaa

/- A byte's type: its zero, its size. -/
namespace Go.Proofs.Ytpbobmiajjgekaa
theorem bytesInfo : (Try.prog.info? 5).map (fun i => (i.zero, i.size, i.bytes)) = some (some (.int .u8 0), 1, 1) := by kernel_rfl
end Go.Proofs.Ytpbobmiajjgekaa

/- num.digits: its contract. -/
namespace Go.Proofs.Ytpbobmiajjgekaa
set_option linter.unusedVariables false
set_option maxRecDepth 100000
set_option linter.unusedSimpArgs false
open Go.RowKit


theorem d_nonneg (n b : Nat) : (0 : Int) ≤ (n : Int) / (b : Int) := Int.ediv_nonneg (by omega) (by omega)
theorem d_le (n b k : Nat) (h : n ≤ k) : (n : Int) / (b : Int) ≤ (k : Int) := by
  have : n / b ≤ k := Nat.le_trans (Nat.div_le_self _ _) h
  have e : (n : Int) / (b : Int) = ((n / b : Nat) : Int) := by simp
  rw [e]; omega
theorem d_set {b n m k q : Nat} (h : k < m) (hq : q = n / b ^ k) (hb : 1 ≤ b) (hb2 : b ≤ 128) :
    (dcells b n m k).setIfInBounds (m - 1 - k) (.int .u8 ((q : Int) % (b : Int) % 256)) = dcells b n m (k + 1) := by
  rw [← dcells_set b n m k h, ← hq]
  have h1 : q % b < b := Nat.mod_lt _ (by omega)
  have h2 : (q : Int) % (b : Int) % 256 = ((q % b : Nat) : Int) := by
    have e : (q : Int) % (b : Int) = ((q % b : Nat) : Int) := by simp
    rw [e]; omega
  rw [h2]
theorem m_le {b m : Nat} (hb : 2 ≤ b) (h : b ^ m ≤ 1099511627776) : m + 1 ≤ 41 := by
  have h1 : 2 ^ m ≤ b ^ m := Nat.pow_le_pow_left hb m
  have h2 : (2 : Nat) ^ m ≤ 2 ^ 40 := Nat.le_trans h1 (by simpa using h)
  have := (Nat.pow_le_pow_iff_right (by omega : 1 < 2)).1 h2
  omega

theorem dmark_set {a n b L k d : Nat} (h : k < L) (hd : d = n / b ^ (L - 1 - k) % b) : (pcells a n b L k).setIfInBounds k (.int .u8 ((d : Int) + (a : Int))) = pcells a n b L (k + 1) := by
  rw [← pcells_set a n b L k h, ← hd]; simp
theorem dmark_at {a n b L k d : Nat} (h : k < L) (hd : d = n / b ^ (L - 1 - k) % b) : (pcells a n b L k)[k]? = some (.int .u8 (d : Int)) := by
  rw [pcells_at _ _ _ _ _ _ h, if_neg (by omega), ← hd]

end Go.Proofs.Ytpbobmiajjgekaa

/- num.Decimal: its contracts. -/
namespace Go.Proofs.Ytpbobmiajjgekaa
set_option linter.unusedVariables false
set_option maxRecDepth 100000
set_option linter.unusedSimpArgs false
open Go.RowKit

end Go.Proofs.Ytpbobmiajjgekaa

/- syntax.Dots: its contract. -/
namespace Go.Proofs.Ytpbobmiajjgekaa
set_option linter.unusedVariables false
set_option maxRecDepth 100000
set_option linter.unusedSimpArgs false
open Go.RowKit

def qB (a i : Nat) : Nat := a / 256 ^ (3 - i) % 256
def qcells (a i : Nat) : Array Value := ((List.range 4).map fun j => Value.string (bs (if j < i then decB (qB a j) else []))).toArray
theorem qcells_set (a i : Nat) (h : i < 4) : (qcells a i).setIfInBounds i (.string (bs (decB (qB a i)))) = qcells a (i + 1) := by
  apply Array.ext
  · simp [qcells]
  · intro j h1 h2
    have hj : j < 4 := by simpa [qcells] using h2
    rw [Array.getElem_setIfInBounds (by simpa [qcells] using hj)]
    by_cases he : i = j
    · subst he; simp [qcells]
    · rw [if_neg he]
      have : (j < i) ↔ (j < i + 1) := by omega
      simp [qcells, this]
theorem qcells_at (a i j : Nat) (h : j < 4) : (qcells a i)[j]? = some (.string (bs (if j < i then decB (qB a j) else []))) := by simp [qcells, h]
theorem q_step (a i : Nat) (ha : a < 4294967296) (h : i < 4) : a * 256 ^ i % 4294967296 / 16777216 = qB a i := by
  unfold qB
  match i, h with
  | 0, _ => simp; omega
  | 1, _ => simp; omega
  | 2, _ => simp; omega
  | 3, _ => simp; omega
theorem dotsB_q (a : Nat) (ha : a < 4294967296) : dotsB a = joinL 46 [decB (qB a 0), decB (qB a 1), decB (qB a 2), decB (qB a 3)] := by
  unfold dotsB qB
  simp only [Nat.sub_zero, Nat.reducePow, Nat.reduceSub, Nat.div_one, Nat.pow_zero]
theorem dec_len3 (n : Nat) (h : n < 256) : (decB n).length ≤ 3 := by
  by_cases h1 : n < 10
  · rw [decB_length n 1 (by omega) (by omega) (.inl rfl)]; omega
  · by_cases h2 : n < 100
    · rw [decB_length n 2 (by omega) (by omega) (.inr (by omega))]; omega
    · rw [decB_length n 3 (by omega) (by omega) (.inr (by omega))]; omega
theorem dots_len (a : Nat) : (dotsB a).length ≤ 15 := by
  unfold dotsB
  simp only [joinL, List.length_append, List.length_cons]
  have h1 := dec_len3 (a / 16777216 % 256) (by omega)
  have h2 := dec_len3 (a / 65536 % 256) (by omega)
  have h3 := dec_len3 (a / 256 % 256) (by omega)
  have h4 := dec_len3 (a % 256) (by omega)
  omega

end Go.Proofs.Ytpbobmiajjgekaa
