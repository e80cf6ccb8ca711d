/- append of several rows at once, with the place of the new slice. Nothing of the program is named here. -/
import Derived.Test.YtinjldjpncijjaaG4
namespace Go.Proofs.Ytinjldjpncijjaa
set_option linter.unusedVariables false
set_option maxRecDepth 100000
set_option linter.unusedSimpArgs false
open Go.RowKit

section
variable {β : Type} {P : Program} {t e : TypeId} {k by_ : Nat} {f : β → Array Value} {w w' : World} {B : Nat} {A : Option Addr} {c : Nat} {l : List β}
/-- append of rows, of one at least: where the new slice lies. -/
theorem wp_rowsM_at (R : Ro P t e k by_ f) {ops : Array Oper} {rest : List Oper} {o : Oper} {a : Act} {Q : Exit → Act → World → Prop} (hgd : o.guard = none) (s x : Operand)
    (ho : o.op = .call { callee := .builtin .append, args := #[s, x], argTypes := #[t, t] }) (n : Nat) (hs : a.eval s = .slice A n c) (hn : l.length = n) (hown : Ow e k f w B A c l)
    (M : List β) (m b c' : Nat) (hm : M.length = m) (hm0 : 0 < m) (hx : a.eval x = .slice (some ⟨b, 0, none⟩) m c') (hR : Rw k f w (some ⟨b, 0, none⟩) M)
    (hlen : n + m ≤ 1099511627776) (hbase : B ≤ w.heap.size) (s' : Nat) (hsum : n + m = s')
    (h : ∀ g2 c2 w', Ow e k f w' B (some ⟨g2, 0, none⟩) c2 (l ++ M) → w.grownBy w' (Value.slice A n c).ownBlock → Below B w w' → ((Value.slice A n c).ownBlock = some g2 ∨ g2 = w.heap.size) → wpList P ops Q rest (a.put o.dst (.slice (some ⟨g2, 0, none⟩) s' c2)) w') : wpList P ops Q (o :: rest) a w := by
  obtain ⟨i, z, hi1, hz, hsz, hby, hzc⟩ := R.hi
  subst hn; subst hsum; subst hm
  have hb8 : (l.length + M.length) * by_ ≤ 140737488355328 := Nat.le_trans (Nat.mul_le_mul hlen R.few) (by decide)
  refine wpList_append_own_at w hgd s x t ho B e i z k by_ R.ht hi1 hz hsz hby hzc R.k0 _ l.length (fl f l) hs hown ⟨b, 0, none⟩ M.length c' (fl f M) hx (fl_length R.fs M) ?_ ?_ (by unfold maxLen; omega) hb8 hbase ?_
  · intro q u hu
    obtain ⟨i', j, hi', hj, rfl, hv⟩ := fl_all R.fs R.k0 M q u hu
    rcases hR with h0 | ⟨b2, o', e1, _, hc⟩
    · rw [h0] at hm0; simp at hm0
    · injection e1 with e1
      rw [e1, add_plain, ← Nat.add_assoc, hc i' hi' j hj, hv]
  · intro u hu
    obtain ⟨y2, _, hy⟩ := fl_mem hu
    exact R.one y2 u hy
  · intro v' w' hown' hg _ hat
    have hbel : Below B w w' := (Below.refl B w).grown hg hbase (fun k hk => (World.ownsRow.lt hown k hk).1)
    have hlen' : (l ++ M).length = l.length + M.length := List.length_append
    rw [← fl_app] at hown'
    rw [← hlen'] at hown'
    obtain ⟨g, cap, rfl, _, _⟩ := World.ownsRow.form hown' (by rw [hlen']; omega)
    have := h g cap w' hown' hg hbel (by
      rcases hat with e1 | e1
      · left; rw [← e1]; rfl
      · right; simpa [Value.ownBlock] using e1)
    rwa [← hlen'] at this
/-- The same as one operation. -/
theorem op_rowsM_at (R : Ro P t e k by_ f) {o : Oper} {a : Act} {K : Act → World → Prop} {Q : Exit → Act → World → Prop} (s x : Operand)
    (ho : o.op = .call { callee := .builtin .append, args := #[s, x], argTypes := #[t, t] }) (n : Nat) (hs : a.eval s = .slice A n c) (hn : l.length = n) (hown : Ow e k f w B A c l)
    (M : List β) (m b c' : Nat) (hm : M.length = m) (hm0 : 0 < m) (hx : a.eval x = .slice (some ⟨b, 0, none⟩) m c') (hR : Rw k f w (some ⟨b, 0, none⟩) M)
    (hlen : n + m ≤ 1099511627776) (hbase : B ≤ w.heap.size) (s' : Nat) (hsum : n + m = s')
    (h : ∀ g2 c2 w', Ow e k f w' B (some ⟨g2, 0, none⟩) c2 (l ++ M) → w.grownBy w' (Value.slice A n c).ownBlock → Below B w w' → ((Value.slice A n c).ownBlock = some g2 ∨ g2 = w.heap.size) → K (a.put o.dst (.slice (some ⟨g2, 0, none⟩) s' c2)) w') : o.wp P a w K Q := by
  obtain ⟨i, z, hi1, hz, hsz, hby, hzc⟩ := R.hi
  subst hn; subst hsum; subst hm
  have hb8 : (l.length + M.length) * by_ ≤ 140737488355328 := Nat.le_trans (Nat.mul_le_mul hlen R.few) (by decide)
  obtain ⟨v', w', hr, hown', hg, _, hat⟩ := run_append_own_at (P := P) w B t o.type e i z k by_ R.ht hi1 hz hsz hby hzc R.k0 _ l.length (fl f l) hown ⟨b, 0, none⟩ M.length c' (fl f M) (fl_length R.fs M) (fun q u hu => by
    obtain ⟨i', j, hi', hj, rfl, hv⟩ := fl_all R.fs R.k0 M q u hu
    rcases hR with h0 | ⟨b2, o', e1, _, hc⟩
    · rw [h0] at hm0; simp at hm0
    · injection e1 with e1
      rw [e1, add_plain, ← Nat.add_assoc, hc i' hi' j hj, hv]) (fun u hu => by
    obtain ⟨y2, _, hy⟩ := fl_mem hu
    exact R.one y2 u hy) (by unfold maxLen; omega) hb8 hbase
  have hbel : Below B w w' := (Below.refl B w).grown hg hbase (fun k hk => (World.ownsRow.lt hown k hk).1)
  have hlen' : (l ++ M).length = l.length + M.length := List.length_append
  rw [← fl_app] at hown'
  rw [← hlen'] at hown'
  obtain ⟨g, cap, rfl, _, _⟩ := World.ownsRow.form hown' (by rw [hlen']; omega)
  have hk := h g cap w' hown' hg hbel (by
    rcases hat with e1 | e1
    · left; rw [← e1]; rfl
    · right; simpa [Value.ownBlock] using e1)
  unfold Oper.wp execOp
  simp only [ho, resolve, invoke, builtin, Sem.run_bind, Sem.run_pure, Result.andThen_ok, List.map_toArray, List.map_cons, List.map_nil, hs, hx, hr]
  rw [hlen']
  exact hk
end
end Go.Proofs.Ytinjldjpncijjaa
