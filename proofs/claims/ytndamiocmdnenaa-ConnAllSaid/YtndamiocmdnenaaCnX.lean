/- Beside a table of connections: a row of numbers, a row of bools of the law's own. -/
import Derived.Test.YtndamiocmdnenaaCnH
import Derived.Maps.AppendAt
namespace Go.Proofs.Ytndamiocmdnenaa
set_option linter.unusedVariables false
set_option maxRecDepth 100000
set_option linter.unusedSimpArgs false
open Go.RowKit

/-- The slice at A owns the numbers L: since the law began, and away from the table's blocks. -/
structure Jx (W u : World) (G : List Nat) (A : Option Addr) (c : Nat) (L : List Int) : Prop where
  o : OI u W.heap.size A c L
  n : ∀ g, (Value.slice A L.length c).ownBlock = some g → g ∉ G
section
variable {W u u' : World} {G G' : List Nat} {A : Option Addr} {c : Nat} {L : List Int} {tb : Nat} {t : Tc}
theorem Jx.nil (W u : World) (G : List Nat) : Jx W u G none 0 [] := ⟨OI.nil _ _, fun g h => by cases h⟩
theorem Jx.lt (h : Jx W u G A c L) {g : Nat} (hg : (Value.slice A L.length c).ownBlock = some g) : W.heap.size ≤ g ∧ g < u.heap.size := by
  rcases h.o.2 with ⟨hv, _⟩ | ⟨g', cap, cur, hv, hb, hh, _⟩
  · injection hv with h1
    subst h1
    cases hg
  · rw [hv] at hg
    simp [Value.ownBlock] at hg
    subst hg
    exact ⟨hb, lt_of_block hh⟩
theorem Jx.step (h : Jx W u G A c L) (s : Sp u u' G G') : Jx W u' G' A c L := by
  refine ⟨⟨h.o.1, ?_⟩, fun g hg hx => ?_⟩
  · rcases h.o.2 with hn | ⟨g, cap, cur, hv, hb, hh, r⟩
    · exact .inl hn
    · exact .inr ⟨g, cap, cur, hv, hb, (show Bk u g 3 cur from hh).ke s.k (h.n g (by rw [hv]; rfl)), r⟩
  · rcases s.g g hx with e | e
    · exact h.n g hg e
    · have := (h.lt hg).2; omega
theorem Jx.on (h : Jx W u G A c L) (hb : Below u.heap.size u u') : Jx W u' G A c L := h.step (Sp.of (Ke.of hb).nil)
/-- What turns is a block of another type. -/
theorem Jx.far (h : Jx W u G A c L) {g : Nat} {e : TypeId} {cs : Array Value} (hb : Bk u g e cs) (he : e ≠ 3) (k : Ke [g] u u') : Jx W u' G A c L := by
  refine ⟨⟨h.o.1, ?_⟩, h.n⟩
  rcases h.o.2 with hn | ⟨g', cap, cur, hv, hB, hh, r⟩
  · exact .inl hn
  · refine .inr ⟨g', cap, cur, hv, hB, (show Bk u g' 3 cur from hh).ke k ?_, r⟩
    intro hx
    rw [List.mem_singleton] at hx
    subst hx
    have h1 : u.heap[g']? = some (.cells cur 3 (0, 0)) := hh
    have h2 : u.heap[g']? = some (.cells cs e (0, 0)) := hb
    rw [h1] at h2
    injection h2 with h2
    injection h2 with _ h2
    exact he h2.symm
theorem Jx.ri (h : Jx W u G A c L) : Ri u G A L := by
  rcases h.o.2 with ⟨hv, h0⟩ | ⟨g, cap, cur, hv, hb, hh, r⟩
  · exact .inl (List.eq_nil_of_length_eq_zero h0)
  · have hg : (Value.slice A L.length c).ownBlock = some g := by rw [hv]; rfl
    injection hv with h1 h2 h3
    subst h1
    refine .inr ⟨g, 0, rfl, h.n g hg, lt_of_block hh, fun i hi => ?_⟩
    have := World.ownsRow.cellAt h.o i (by omega)
    rw [Nat.zero_add, this]
    simp [hi]
/-- One number, as an element. -/
theorem Jx.at_ (h : Jx W u G A c L) (i : Nat) (hi : i < L.length) : ∃ b o x, A = some ⟨b, o, none⟩ ∧ L[i]? = some x ∧ u.cell? ⟨b, o + i, none⟩ = some (.int .i64 x) := by
  obtain ⟨b, o, x, h1, h2, h3⟩ := h.ri.at_ hi
  exact ⟨b, o, x, h1, h3, h2⟩
theorem Jx.cap (h : Jx W u G A c L) : L.length ≤ c ∧ c ≤ 9223372036854775807 ∧ (A = none → L.length = 0 ∧ c = 0) := h.o.cap
/-- What an append of one number comes to. -/
structure Ja (W u : World) (G : List Nat) (A : Option Addr) (c : Nat) (L : List Int) (v : Int) (g c2 : Nat) (w' : World) : Prop where
  j : Jx W w' G (some ⟨g, 0, none⟩) c2 (L ++ [v])
  k : ∃ K : List Nat, Ke K u w' ∧ ∀ y ∈ K, y ∉ G ∧ W.heap.size ≤ y ∧ ∃ cs, Bk u y 3 cs
theorem Ja.z {v : Int} {g c2 : Nat} (h : Ja W u G A c L v g c2 u') (hz : Zc W u G tb t) : Zc W u' G tb t := by
  obtain ⟨K, k1, k2⟩ := h.k
  exact hz.ke k1 (fun y hy hx => (k2 y hx).1 hy) (hz.l.trans (k1.below hz.l.size (fun x hx => (k2 x hx).2.1)))
theorem Ja.bz {v : Int} {g c2 : Nat} (h : Ja W u G A c L v g c2 u') {q : Nat} {e : TypeId} {cs : Array Value} (hb : Bz u G q e cs) (he : e ≠ 3) : Bz u' G q e cs := by
  obtain ⟨K, k1, k2⟩ := h.k
  refine ⟨hb.b.ke k1 (fun hx => ?_), hb.n⟩
  obtain ⟨_, _, cs2, h2⟩ := k2 q hx
  have h1 : u.heap[q]? = some (.cells cs e (0, 0)) := hb.b
  have h2 : u.heap[q]? = some (.cells cs2 3 (0, 0)) := h2
  rw [h1] at h2
  injection h2 with h2
  injection h2 with _ h2
  exact he h2
theorem wp_jx {ops : Array Oper} {rest : List Oper} {o : Oper} {a : Act} {Q : Exit → Act → World → Prop} (hgd : o.guard = none) (s x : Operand)
    (ho : o.op = .call { callee := .builtin .append, args := #[s, x], argTypes := #[27, 27] }) (n : Nat) (hs : a.eval s = .slice A n c) (hn : L.length = n) (h : Jx W u G A c L) (hG : ∀ y ∈ G, y < u.heap.size)
    (v : Int) (b c' : Nat) (hx : a.eval x = .slice (some ⟨b, 0, none⟩) 1 c') (hb : u.cell? ⟨b, 0, none⟩ = some (.int .i64 v)) (hW : W.heap.size ≤ u.heap.size) (hlen : n ≤ 1048576) (n' : Nat) (hn' : n + 1 = n')
    (hK : ∀ g c2 w', Hid (Ja W u G A c L v g c2 w') → wpList Try.prog ops Q rest (a.put o.dst (.slice (some ⟨g, 0, none⟩) n' c2)) w') : wpList Try.prog ops Q (o :: rest) a u := by
  obtain ⟨i0, hi1, hz0, hs0, hb0⟩ := info_parts i64_info
  subst hn; subst hn'
  refine wpList_append_own_at u hgd s x 27 ho W.heap.size 3 i0 (.int .i64 0) 1 8 Try.underlying27 hi1 hz0 hs0 hb0 rfl (by decide) _ L.length (i64s L) hs h.o ⟨b, 0, none⟩ 1 c' [.int .i64 v] hx rfl ?_ (by simp [Value.oneCell']) (by unfold maxLen; omega) (by omega) hW ?_
  · intro j w hw
    have hj : j = 0 := by
      rcases Nat.eq_zero_or_pos j with h0 | h0
      · exact h0
      · rw [List.getElem?_eq_none (by simp; omega)] at hw; cases hw
    subst hj
    simp at hw
    subst hw
    rw [add_plain]
    exact hb
  · intro v' w' hown' hg _ hat
    obtain ⟨g, cap, rfl, _, _⟩ := World.ownsRow.form hown' (by omega)
    refine hK g cap w' (Lib.hid ⟨⟨?_, fun g2 hg2 => ?_⟩, ?_⟩)
    · unfold OI
      rw [List.length_append, show i64s (L ++ [v]) = i64s L ++ [.int .i64 v] by simp]
      exact hown'
    · simp [Value.ownBlock] at hg2
      subst hg2
      rcases hat with e1 | e1
      · exact h.n g (by rw [← e1]; rfl)
      · have : g = u.heap.size := by simpa [Value.ownBlock] using e1
        intro hx
        have := hG g hx
        omega
    · cases ho2 : (Value.slice A L.length c).ownBlock with
      | none => rw [ho2] at hg; exact ⟨[], Ke.grown0 hg, fun y hy => by cases hy⟩
      | some g0 =>
        rw [ho2] at hg
        refine ⟨[g0], Ke.grown hg, fun y hy => ?_⟩
        rw [List.mem_singleton.1 hy]
        refine ⟨h.n g0 ho2, (h.lt ho2).1, ?_⟩
        rcases h.o.2 with ⟨hv, _⟩ | ⟨g', cap, cur, hv, hB, hh, _⟩
        · rw [hv] at ho2; cases ho2
        · rw [hv] at ho2
          simp [Value.ownBlock] at ho2
          subst ho2
          exact ⟨cur, hh⟩
end
end Go.Proofs.Ytndamiocmdnenaa
