/- Bytes both ways: what the document asks, as Lean functions. (Begun in round 16, ahead of the landing: nothing of the program is named here.) -/
import Derived.Test.YtndamiocmdnenaaRing3
namespace Go.Proofs.Ytndamiocmdnenaa
set_option linter.unusedVariables false
set_option maxRecDepth 100000
set_option linter.unusedSimpArgs false

/-- A way: what waits, whether its side has ended, whether that went out, how many bytes went out. -/
structure Wy where
  q : List UInt8
  en : Bool
  to : Bool
  mv : Int
/-- Both ways, by the sides at which bytes come in; whether all is broken. -/
structure Pu where
  a : Wy
  b : Wy
  br : Bool
abbrev wy0 : Wy := ⟨[], false, false, 0⟩
abbrev pu0 : Pu := ⟨wy0, wy0, false⟩
/-- The way of a side (true: 1). -/
def Pu.w (p : Pu) (k : Bool) : Wy := if k = true then p.b else p.a
def Pu.up (p : Pu) (k : Bool) (x : Wy) : Pu := if k = true then { p with b := x } else { p with a := x }
/-- Which side a number is. -/
def sdK (s : Int) : Option Bool := if s = 0 then some false else if s = 1 then some true else none
def inP (m : Nat) (p : Pu) (s : Int) (B : List UInt8) : Nat × Pu :=
  match sdK s with
  | none => (0, p)
  | some k => if (p.br || (p.w k).en) = true then (0, p) else (min B.length (m - (p.w k).q.length), p.up k { p.w k with q := (p.w k).q ++ B.take (m - (p.w k).q.length) })
def endP (p : Pu) (s : Int) : Bool × Pu :=
  match sdK s with
  | none => (false, p)
  | some k => if (p.br || (p.w k).en) = true then (false, p) else (true, p.up k { p.w k with en := true })
/-- Does the end of a way go out with so many bytes? -/
def enO (x : Wy) (t : Nat) : Bool := x.en && decide (x.q.length = t) && !x.to
def outP (p : Pu) (s : Int) (n : Int) : (List UInt8 × Bool) × Pu :=
  match sdK s with
  | none => (([], false), p)
  | some k => if p.br = true then (([], false), p) else
      (((p.w !k).q.take (takeM n (p.w !k).q.length), enO (p.w !k) (takeM n (p.w !k).q.length)),
        p.up (!k) ⟨(p.w !k).q.drop (takeM n (p.w !k).q.length), (p.w !k).en, (p.w !k).to || enO (p.w !k) (takeM n (p.w !k).q.length), (p.w !k).mv + (takeM n (p.w !k).q.length : Nat)⟩)
def brP (p : Pu) : Pu := ⟨{ p.a with q := [] }, { p.b with q := [] }, true⟩
def ovP (p : Pu) : Bool := p.br || (p.a.to && p.b.to)
def mvP (p : Pu) (s : Int) : Int := match sdK s with | none => 0 | some k => (p.w !k).mv
def wtP (p : Pu) (s : Int) : Nat := match sdK s with | none => 0 | some k => (p.w !k).q.length
def rmP (m : Nat) (p : Pu) (s : Int) : Nat := match sdK s with | none => 0 | some k => if (p.br || (p.w k).en) = true then 0 else m - (p.w k).q.length
theorem up_w (p : Pu) (k : Bool) (x : Wy) : (p.up k x).w k = x := by cases k <;> rfl
theorem up_o (p : Pu) (k : Bool) (x : Wy) : (p.up k x).w (!k) = p.w (!k) := by cases k <;> rfl
theorem up_br (p : Pu) (k : Bool) (x : Wy) : (p.up k x).br = p.br := by cases k <;> rfl
/-- A pair of ways that is right: of at most m bytes each; what went out at its end has no more. -/
structure Gw (m : Nat) (x : Wy) : Prop where
  le : x.q.length ≤ m
  to : x.to = true → x.en = true ∧ x.q = []
structure Gu (m : Nat) (p : Pu) : Prop where
  a : Gw m p.a
  b : Gw m p.b
theorem Gu.w {m : Nat} {p : Pu} (h : Gu m p) (k : Bool) : Gw m (p.w k) := by cases k; exact h.a; exact h.b
theorem Gu.up {m : Nat} {p : Pu} (h : Gu m p) (k : Bool) {x : Wy} (hx : Gw m x) : Gu m (p.up k x) := by cases k; exact ⟨hx, h.b⟩; exact ⟨h.a, hx⟩
theorem gu_new (m : Nat) : Gu m pu0 := ⟨⟨by simp, fun h => by cases h⟩, ⟨by simp, fun h => by cases h⟩⟩
theorem gu_in {m : Nat} {p : Pu} (h : Gu m p) (s : Int) (B : List UInt8) : Gu m (inP m p s B).2 := by
  unfold inP
  split
  · exact h
  · rename_i k _
    split
    · exact h
    · rename_i hn
      refine h.up k ⟨?_, fun ht => ?_⟩
      · rw [List.length_append, List.length_take]
        have := (h.w k).le
        omega
      · have := ((h.w k).to ht).1
        rw [this, Bool.or_true] at hn
        exact absurd rfl hn
theorem gu_end {m : Nat} {p : Pu} (h : Gu m p) (s : Int) : Gu m (endP p s).2 := by
  unfold endP
  split
  · exact h
  · rename_i k _
    split
    · exact h
    · exact h.up k ⟨(h.w k).le, fun ht => ⟨rfl, ((h.w k).to ht).2⟩⟩
theorem takeM_le2 (n : Int) (k : Nat) : takeM n k ≤ k := by unfold takeM; omega
theorem gu_out {m : Nat} {p : Pu} (h : Gu m p) (s n : Int) : Gu m (outP p s n).2 := by
  unfold outP
  split
  · exact h
  · rename_i k _
    split
    · exact h
    · refine h.up (!k) ⟨?_, fun ht => ?_⟩
      · rw [List.length_drop]
        have := (h.w !k).le
        omega
      · simp only [Bool.or_eq_true] at ht
        rcases ht with ht | ht
        · obtain ⟨h1, h2⟩ := (h.w !k).to ht
          exact ⟨h1, by rw [h2]; simp⟩
        · unfold enO at ht
          simp only [Bool.and_eq_true, decide_eq_true_eq] at ht
          exact ⟨ht.1.1, List.drop_eq_nil_of_le (by have := ht.1.2; omega)⟩
theorem gu_br {m : Nat} {p : Pu} (h : Gu m p) : Gu m (brP p) := ⟨⟨by simp [brP], fun ht => ⟨(h.a.to ht).1, rfl⟩⟩, ⟨by simp [brP], fun ht => ⟨(h.b.to ht).1, rfl⟩⟩⟩
end Go.Proofs.Ytndamiocmdnenaa
