/- Beside a queue: a row of numbers of the law's own. -/
import Derived.Test.YtikkiifcnjiegaaQuG
namespace Go.Proofs.Ytikkiifcnjiegaa
set_option linter.unusedVariables false
set_option maxRecDepth 100000
set_option linter.unusedSimpArgs false
open Go.RowKit

/-- The slice at A owns the numbers L: since the law began, and away from the queue's blocks. -/
structure Lx (W u : World) (G : List Nat) (A : Option Addr) (c : Nat) (L : List Int) : Prop where
  o : OI u W.heap.size A c L
  n : ∀ g, (Value.slice A L.length c).ownBlock = some g → g ∉ G
section
variable {W u u' : World} {G G' : List Nat} {A : Option Addr} {c : Nat} {L : List Int} {qb : Nat} {q : List Qn}
theorem Lx.nil (W u : World) (G : List Nat) : Lx W u G none 0 [] := ⟨OI.nil _ _, fun g h => by cases h⟩
theorem Lx.lt (h : Lx W u G A c L) {g : Nat} (hg : (Value.slice A L.length c).ownBlock = some g) : W.heap.size ≤ g ∧ g < u.heap.size := by
  rcases h.o.2 with ⟨hv, _⟩ | ⟨g', cap, cur, hv, hb, hh, _⟩
  · injection hv with h1
    subst h1
    cases hg
  · rw [hv] at hg
    simp [Value.ownBlock] at hg
    subst hg
    exact ⟨hb, lt_of_block hh⟩
theorem Lx.step (h : Lx W u G A c L) (s : Sp u u' G G') : Lx W u' G' A c L :=
  ⟨h.o.keep fun g cs hg hh => hh.ke s.k (h.n g hg), fun g hg hx => by
    rcases s.g g hx with e | e
    · exact h.n g hg e
    · have := (h.lt hg).2; omega⟩
theorem Lx.on (h : Lx W u G A c L) (hb : Below u.heap.size u u') : Lx W u' G A c L := h.step (Sp.of (Ke.of hb).nil)
theorem Lx.ri (h : Lx W u G A c L) : Ri u G A L := by
  rcases h.o.2 with ⟨hv, h0⟩ | ⟨g, cap, cur, hv, hb, hh, r⟩
  · exact .inl (List.eq_nil_of_length_eq_zero h0)
  · have hg : (Value.slice A L.length c).ownBlock = some g := by rw [hv]; rfl
    injection hv with h1 h2 h3
    subst h1
    refine .inr ⟨g, 0, rfl, h.n g hg, lt_of_block hh, fun i hi => ?_⟩
    have := World.ownsRow.cellAt h.o i (by omega)
    rw [Nat.zero_add, this]
    simp [hi]
theorem Lx.of {B : Nat} (h : OI u B A c L) (hB : W.heap.size ≤ B) (hG : ∀ y ∈ G, y < B) : Lx W u G A c L :=
  ⟨h.weak hB, fun g hg hx => by
    have := hG g hx
    rcases h.2 with ⟨hv, _⟩ | ⟨g', cap, cur, hv, hb, hh, _⟩
    · injection hv with h1
      subst h1
      cases hg
    · rw [hv] at hg
      simp [Value.ownBlock] at hg
      subst hg
      omega⟩
theorem Lx.cap (h : Lx W u G A c L) : L.length ≤ c ∧ (A = none → L.length = 0 ∧ c = 0) := ⟨h.o.cap.1, h.o.cap.2.2⟩
/-- One number is appended. -/
theorem Lx.app (h : Lx W u G A c L) (hq : Wq W u G qb q) {v : Int} {t : TypeId} {cs : Array Value} {g c2 : Nat} {w' : World}
    (ha : OI w' 0 (some ⟨g, 0, none⟩) c2 (L ++ [v]) ∧ (u.alloc (.cells cs t)).grownBy w' (Value.slice A L.length c).ownBlock ∧ ((Value.slice A L.length c).ownBlock = some g ∨ g = (u.alloc (.cells cs t)).heap.size)) :
    Lx W w' G (some ⟨g, 0, none⟩) c2 (L ++ [v]) ∧ Wq W w' G qb q := by
  obtain ⟨h1, h2, h3⟩ := ha
  have hk0 : Ke [] u (u.alloc (.cells cs t)) := (Ke.refl _ _).alloc _
  have hW := hq.l.size
  have hg : W.heap.size ≤ g ∧ g ∉ G := by
    rcases h3 with e | e
    · exact ⟨(h.lt e).1, h.n g e⟩
    · rw [World.size_alloc] at e
      exact ⟨by omega, fun hx => by have := hq.hi g hx; omega⟩
  refine ⟨⟨⟨h1.1, ?_⟩, fun g2 hg2 => ?_⟩, ?_⟩
  · rcases h1.2 with hn | ⟨g', cap, cur, hv, _, r⟩
    · exact .inl hn
    · refine .inr ⟨g', cap, cur, hv, ?_, r⟩
      injection hv with e1
      injection e1 with e1
      injection e1 with e1
      subst e1
      exact hg.1
  · simp [Value.ownBlock] at hg2
    subst hg2
    exact hg.2
  · cases ho : (Value.slice A L.length c).ownBlock with
    | none =>
      rw [ho] at h2
      have k := hk0.trans (Ke.grown0 h2)
      exact hq.on k.b0
    | some g0 =>
      rw [ho] at h2
      have k : Ke [g0] u w' := (hk0.nil).trans (Ke.grown h2)
      exact hq.ke k (fun y hy hx => h.n g0 ho (by rw [← List.mem_singleton.1 hx]; exact hy)) (hq.l.trans (k.below hW (fun x hx => by rw [List.mem_singleton.1 hx]; exact (h.lt ho).1)))
end
theorem Ri.tail {w : World} {K : List Nat} {A : Option Addr} {l : List Int} {c : Nat} (h : Ri w K A l) (lo : Nat) (hc : l.length ≤ c) : Ri w K (tailA A c lo) (l.drop lo) := by
  by_cases h0 : l.drop lo = []
  · left; exact h0
  · have hlo : lo < l.length := by
      rcases Nat.lt_or_ge lo l.length with h1 | h1
      · exact h1
      · exact absurd (List.drop_of_length_le h1) h0
    rcases h with h | ⟨b, o, e, hn, hb, hcl⟩
    · rw [h] at hlo; simp at hlo
    · subst e
      rw [tail_at b o c lo (by omega)]
      refine .inr ⟨b, o + lo, rfl, hn, hb, fun i hi => ?_⟩
      have hi' : lo + i < l.length := by rw [List.length_drop] at hi; omega
      have := hcl (lo + i) hi'
      rw [← Nat.add_assoc] at this
      rw [this, List.getElem_drop]
/-- row[lo:]. -/
theorem islice_from (A : Option Addr) (n c lo : Nat) (h : lo ≤ n) (hc : n ≤ c) (u : World) : (Instr.sliceAt 43 (.slice A n c) (some (.int .i64 (lo : Int))) none none).run Try.prog u = .ok (.slice (tailA A c lo) (n - lo) (c - lo)) u := by
  have h1 : (lo : Int) ≤ (n : Int) := by omega
  have h2 : (n : Int) ≤ (c : Int) := by omega
  unfold tailA
  go_simp
/-- row[:hi]. -/
theorem islice_to (A : Option Addr) (n c hi : Nat) (h : hi ≤ n) (hc : n ≤ c) (u : World) : (Instr.sliceAt 43 (.slice A n c) none (some (.int .i64 (hi : Int))) none).run Try.prog u = .ok (.slice A hi c) u := by
  have h1 : (hi : Int) ≤ (n : Int) := by omega
  have h2 : (hi : Int) ≤ (c : Int) := by omega
  go_simp
end Go.Proofs.Ytikkiifcnjiegaa
