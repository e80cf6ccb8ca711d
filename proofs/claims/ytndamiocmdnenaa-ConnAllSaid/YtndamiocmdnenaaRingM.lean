/- Bytes that stand round in a row: what it is that they wait, and what adding and taking come to. Plain: nothing of the program is named here. -/
import Derived.Laws.CopyOwn
namespace Go.Proofs.Ytndamiocmdnenaa
set_option linter.unusedVariables false
set_option maxRecDepth 100000
set_option linter.unusedSimpArgs false

/-- In a row of n places the place k, which may be one round on. -/
def rnd (n k : Nat) : Nat := if k < n then k else k - n

/-- In the row stand, from place f on, the bytes q. -/
structure Rd (row : List UInt8) (f : Nat) (q : List UInt8) : Prop where
  fit : q.length ≤ row.length
  fst : f < row.length ∨ f = 0
  at_ : ∀ i, i < q.length → row[rnd row.length (f + i)]? = q[i]?

theorem Rd.new (m : Nat) : Rd (List.replicate m 0) 0 [] := ⟨by simp, .inr rfl, fun i hi => by simp at hi⟩

theorem getElem?_splice {α : Type} (L cs : List α) (o i : Nat) (h : o + cs.length ≤ L.length) : (splice L o cs)[i]? = if i < o then L[i]? else if i < o + cs.length then cs[i - o]? else L[i]? := by
  unfold splice
  rw [List.getElem?_append, List.getElem?_append, List.length_take]
  have e : min o L.length = o := by omega
  rw [e]
  by_cases h1 : i < o
  · rw [if_pos h1, if_pos h1, List.getElem?_take_of_lt h1]
  · rw [if_neg h1, if_neg h1]
    by_cases h2 : i < o + cs.length
    · rw [if_pos (by omega), if_pos h2]
    · rw [if_neg (by omega), if_neg h2, List.getElem?_drop]
      congr 1
      omega

/-- The first n that wait, in two pieces. -/
theorem Rd.begin_ {row : List UInt8} {f : Nat} {q : List UInt8} (h : Rd row f q) (n w : Nat) (hn : n ≤ q.length) (hw : w = min (row.length - f) n) (Z : List UInt8) (hZ : Z.length = n) :
    splice (splice Z 0 ((row.drop f).take w)) w (row.take (n - w)) = q.take n := by
  have h1 := h.fit
  have l1 : ((row.drop f).take w).length = w := by rw [List.length_take, List.length_drop]; omega
  have l2 : (row.take (n - w)).length = n - w := by rw [List.length_take]; omega
  have l3 : (splice Z 0 ((row.drop f).take w)).length = n := by rw [length_splice _ _ _ (by omega), hZ]
  apply List.ext_getElem?
  intro i
  rw [getElem?_splice _ _ _ _ (by omega), l2]
  by_cases hi : i < n
  · rw [List.getElem?_take_of_lt hi, ← h.at_ i (by omega)]
    unfold rnd
    by_cases h2 : i < w
    · rw [if_pos h2, getElem?_splice _ _ _ _ (by omega), if_neg (by omega), l1, if_pos (by omega), List.getElem?_take_of_lt (by omega), List.getElem?_drop, if_pos (by omega)]
      congr 1
    · rw [if_neg h2, if_pos (by omega), List.getElem?_take_of_lt (by omega)]
      have := h.fst
      rw [if_neg (by omega)]
      congr 1
      omega
  · rw [if_neg (by omega), if_neg (by omega), List.getElem?_eq_none (by omega), List.getElem?_eq_none (by rw [List.length_take]; omega)]

/-- Where that one stands that n bytes wait ahead of. -/
def plc (m k : Nat) : Nat := if m ≤ k then k - m else k

theorem Rd.take_ {row : List UInt8} {f : Nat} {q : List UInt8} (h : Rd row f q) (n : Nat) (hn : n ≤ q.length) : Rd row (plc row.length (f + n)) (q.drop n) := by
  have h1 := h.fit
  have h2 := h.fst
  refine ⟨by rw [List.length_drop]; omega, ?_, fun i hi => ?_⟩
  · unfold plc; split <;> omega
  · rw [List.length_drop] at hi
    rw [List.getElem?_drop, ← h.at_ (n + i) (by omega)]
    congr 1
    unfold plc rnd
    split <;> split <;> split <;> omega

theorem plc_le {row : List UInt8} {f : Nat} {q : List UInt8} (h : Rd row f q) (k : Nat) (hk : k ≤ row.length) : plc row.length (f + k) ≤ row.length := by
  have h2 := h.fst
  unfold plc
  split <;> omega

/-- c behind those that wait, in two pieces. -/
theorem Rd.add_ {row : List UInt8} {f : Nat} {q : List UInt8} (h : Rd row f q) (c : List UInt8) (hc : c.length ≤ row.length - q.length) (p w : Nat) (hp : p = plc row.length (f + q.length)) (hw : w = min c.length (row.length - p)) :
    (splice (splice row p (c.take w)) 0 (c.drop w)).length = row.length ∧ Rd (splice (splice row p (c.take w)) 0 (c.drop w)) f (q ++ c) := by
  have h1 := h.fit
  have h2 := h.fst
  have hpl : p ≤ row.length := hp ▸ plc_le h q.length h1
  have l1 : (c.take w).length = w := by rw [List.length_take]; omega
  have l2 : (c.drop w).length = c.length - w := by rw [List.length_drop]
  have l3 : (splice row p (c.take w)).length = row.length := length_splice _ _ _ (by omega)
  have l4 : (splice (splice row p (c.take w)) 0 (c.drop w)).length = row.length := by rw [length_splice _ _ _ (by omega), l3]
  refine ⟨l4, ⟨by rw [List.length_append, l4]; omega, by rw [l4]; exact h2, fun i hi => ?_⟩⟩
  rw [List.length_append] at hi
  rw [l4, getElem?_splice _ _ _ _ (by omega), if_neg (by omega), l2, getElem?_splice _ _ _ _ (by omega), l1, List.getElem?_append]
  unfold plc at hp
  by_cases hq : i < q.length
  · rw [if_pos hq, ← h.at_ i hq]
    unfold rnd
    split at hp <;> split <;> (repeat' (first | (rw [if_neg (by omega)]) | rfl)) <;> (try (split <;> first | rfl | omega)) <;> (try omega)
  · rw [if_neg hq, List.getElem?_drop]
    unfold rnd
    by_cases hiw : i - q.length < w
    · have e : p ≤ (if f + i < row.length then f + i else f + i - row.length) ∧ (if f + i < row.length then f + i else f + i - row.length) < p + w ∧ (if f + i < row.length then f + i else f + i - row.length) - p = i - q.length := by
        split at hp <;> split <;> omega
      obtain ⟨e1, e2, e3⟩ := e
      rw [if_neg (by split at hp <;> omega), if_neg (by omega), if_pos e2, e3, List.getElem?_take_of_lt hiw]
    · have e : (if f + i < row.length then f + i else f + i - row.length) = i - q.length - w := by
        split at hp <;> split <;> omega
      rw [e, if_pos (by omega)]
      congr 1
      omega
end Go.Proofs.Ytndamiocmdnenaa
