/- What a call of a pump does to its ends; plain. (Begun in round 16, ahead of the landing.) -/
import Derived.Test.YtpomeimjgbblmaaPuP
namespace Go.Proofs.Ytpomeimjgbblmaa
set_option linter.unusedVariables false
set_option maxRecDepth 100000
set_option linter.unusedSimpArgs false

structure OutAt (p : Pu) (k : Bool) (l : List UInt8) (b : Bool) (p2 : Pu) : Prop where
  br : p2.br = p.br
  same : p2.w k = p.w k
  en : (p2.w !k).en = (p.w !k).en
  to : (p2.w !k).to = ((p.w !k).to || b)
  end_ : b = true → p.br = false ∧ (p.w !k).en = true ∧ (p2.w !k).q = []
  brk : p.br = true → l = [] ∧ b = false
  told : (p.w !k).to = true → l = [] ∧ b = false
  split : p.br = false → (p.w !k).q = l ++ (p2.w !k).q
  mv : (p2.w !k).mv = (p.w !k).mv + (l.length : Int)
theorem bool_not_not (k : Bool) : (!(!k)) = k := by cases k <;> rfl
theorem up_s (p : Pu) (k : Bool) (x : Wy) : (p.up (!k) x).w k = p.w k := by cases k <;> rfl
theorem out_at {m : Nat} {p p2 : Pu} {s x : Int} {l : List UInt8} {b : Bool} {k : Bool} (hs : sdK s = some k) (hg : Gu m p) (e : outP p s x = ((l, b), p2)) : OutAt p k l b p2 := by
  unfold outP at e
  rw [hs] at e
  dsimp only at e
  split at e
  · rename_i hb
    injection e with e1 e2
    injection e1 with e1 e3
    subst e1; subst e3; subst e2
    exact ⟨rfl, rfl, rfl, by rw [Bool.or_false], fun h => (by cases h), fun _ => ⟨rfl, rfl⟩, fun _ => ⟨rfl, rfl⟩, fun h => (by rw [hb] at h; cases h), by simp⟩
  · rename_i hb
    have hb2 : p.br = false := by simpa using hb
    have hle := takeM_le2 x (p.w !k).q.length
    injection e with e1 e2
    injection e1 with e1 e3
    generalize takeM x (p.w !k).q.length = t at *
    subst e1; subst e3; subst e2
    refine ⟨up_br _ _ _, up_s _ _ _, by rw [up_w], by rw [up_w], fun h => ?_, fun h => (by rw [hb2] at h; cases h), fun h => ?_, fun _ => ?_, ?_⟩
    · have h2 := h
      unfold enO at h2
      simp only [Bool.and_eq_true, decide_eq_true_eq] at h2
      refine ⟨hb2, h2.1.1, ?_⟩
      rw [up_w]
      exact List.drop_eq_nil_of_le (by have := h2.1.2; omega)
    · obtain ⟨h3, h4⟩ := (hg.w !k).to h
      refine ⟨by rw [h4]; simp, ?_⟩
      unfold enO
      rw [h]
      simp
    · rw [up_w]
      exact (List.take_append_drop t _).symm
    · rw [up_w, List.length_take, Nat.min_eq_left hle]
structure EndAt (p : Pu) (k : Bool) (r : Bool) (p2 : Pu) : Prop where
  is_ : r = (!p.br && !(p.w k).en)
  br : p2.br = p.br
  en : (p2.w k).en = ((p.w k).en || r)
  to : (p2.w k).to = (p.w k).to
  q : (p2.w k).q = (p.w k).q
  mv : (p2.w k).mv = (p.w k).mv
  same : p2.w (!k) = p.w (!k)
theorem end_at {p p2 : Pu} {s : Int} {r : Bool} {k : Bool} (hs : sdK s = some k) (e : endP p s = (r, p2)) : EndAt p k r p2 := by
  unfold endP at e
  rw [hs] at e
  dsimp only at e
  split at e
  · rename_i hb
    injection e with e1 e2
    subst e1; subst e2
    refine ⟨?_, rfl, by rw [Bool.or_false], rfl, rfl, rfl, rfl⟩
    cases h1 : p.br
    · rw [h1, Bool.false_or] at hb; rw [hb]; rfl
    · rfl
  · rename_i hb
    injection e with e1 e2
    subst e1; subst e2
    refine ⟨?_, up_br _ _ _, by rw [up_w, Bool.or_true], by rw [up_w], by rw [up_w], by rw [up_w], up_o _ _ _⟩
    cases h1 : p.br
    · cases h2 : (p.w k).en
      · rfl
      · rw [h1, h2] at hb; exact absurd rfl hb
    · rw [h1] at hb; exact absurd rfl hb
structure InAt (m : Nat) (p : Pu) (k : Bool) (B : List UInt8) (r : Nat) (p2 : Pu) : Prop where
  br : p2.br = p.br
  en : (p2.w k).en = (p.w k).en
  to : (p2.w k).to = (p.w k).to
  mv : (p2.w k).mv = (p.w k).mv
  same : p2.w (!k) = p.w (!k)
  pos : 0 < r → p.br = false ∧ (p.w k).en = false
  le : r ≤ B.length
  q : (p2.w k).q = (p.w k).q ++ B.take r
theorem in_at {m : Nat} {p p2 : Pu} {s : Int} {B : List UInt8} {r : Nat} {k : Bool} (hs : sdK s = some k) (e : inP m p s B = (r, p2)) : InAt m p k B r p2 := by
  unfold inP at e
  rw [hs] at e
  dsimp only at e
  split at e
  · injection e with e1 e2
    subst e1; subst e2
    exact ⟨rfl, rfl, rfl, rfl, rfl, fun h => absurd h (by omega), by omega, by simp⟩
  · rename_i hb
    injection e with e1 e2
    subst e1; subst e2
    refine ⟨up_br _ _ _, by rw [up_w], by rw [up_w], by rw [up_w], up_o _ _ _, fun _ => ?_, by omega, ?_⟩
    · cases h1 : p.br
      · cases h2 : (p.w k).en
        · exact ⟨rfl, rfl⟩
        · rw [h1, h2] at hb; exact absurd rfl hb
      · rw [h1] at hb; exact absurd rfl hb
    · rw [up_w]
      show _ ++ _ = _ ++ _
      congr 1
      rcases Nat.lt_or_ge (m - (p.w k).q.length) B.length with h1 | h1
      · rw [Nat.min_eq_right (by omega)]
      · rw [Nat.min_eq_left h1, List.take_of_length_le h1, List.take_of_length_le (Nat.le_refl _)]
end Go.Proofs.Ytpomeimjgbblmaa
