/- append of one row, with the place of the new slice, as one step of a region that draws. Nothing of the program is named here. -/
import Derived.Test.YtinbegnojfpeiaaDoorG8
namespace Go.Proofs.YtinbegnojfpeiaaDoor
set_option linter.unusedVariables false
set_option maxRecDepth 100000
set_option linter.unusedSimpArgs false
open Go.RowKit

section
variable {β : Type} {P : Program} {t e : TypeId} {k by_ : Nat} {f : β → Array Value} {w w' : World} {B : Nat} {A : Option Addr} {c : Nat} {l : List β}
/-- append of one row: where the new slice lies. -/
theorem op_rows_at (R : Ro P t e k by_ f) {o : Oper} {a : Act} {K : Act → World → Prop} {Q : Exit → Act → World → Prop} (s x : Operand)
    (ho : o.op = .call { callee := .builtin .append, args := #[s, x], argTypes := #[t, t] }) (n : Nat) (hs : a.eval s = .slice A n c) (hn : l.length = n) (hown : Ow e k f w B A c l)
    (y : β) (b c' : Nat) (hx : a.eval x = .slice (some ⟨b, 0, none⟩) 1 c') (hR : Rw k f w (some ⟨b, 0, none⟩) [y])
    (hlen : n + 1 ≤ 1099511627776) (hbase : B ≤ w.heap.size) (s' : Nat) (hsum : n + 1 = s')
    (h : ∀ g2 c2 w', Ow e k f w' B (some ⟨g2, 0, none⟩) c2 (l ++ [y]) → w.grownBy w' (Value.slice A n c).ownBlock → Below B w w' → ((Value.slice A n c).ownBlock = some g2 ∨ g2 = w.heap.size) → K (a.put o.dst (.slice (some ⟨g2, 0, none⟩) s' c2)) w') : o.wp P a w K Q := by
  obtain ⟨i, z, hi1, hz, hsz, hby, hzc⟩ := R.hi
  subst hn; subst hsum
  have hb8 : (l.length + 1) * by_ ≤ 140737488355328 := Nat.le_trans (Nat.mul_le_mul hlen R.few) (by decide)
  obtain ⟨v', w', hr, hown', hg, _, hat⟩ := run_append_own_at (P := P) w B t o.type e i z k by_ R.ht hi1 hz hsz hby hzc R.k0 _ l.length (fl f l) hown ⟨b, 0, none⟩ 1 c' (fl f [y]) (fl_length R.fs [y]) (fun q u hu => by
    obtain ⟨i', j, hi', hj, rfl, hv⟩ := fl_all R.fs R.k0 [y] q u hu
    rcases hR with h0 | ⟨b2, o', e1, _, hc⟩
    · cases h0
    · injection e1 with e1
      rw [e1, add_plain, ← Nat.add_assoc, hc i' hi' j hj, hv]) (fun u hu => by
    obtain ⟨y2, _, hy⟩ := fl_mem hu
    exact R.one y2 u hy) (by unfold maxLen; omega) hb8 hbase
  have hbel : Below B w w' := (Below.refl B w).grown hg hbase (fun k hk => (World.ownsRow.lt hown k hk).1)
  have hlen' : (l ++ [y]).length = l.length + 1 := List.length_append
  rw [← fl_app] at hown'
  rw [← hlen'] at hown'
  obtain ⟨g, cap, rfl, _, _⟩ := World.ownsRow.form hown' (by rw [hlen']; omega)
  have hk := h g cap w' hown' hg hbel (by
    rcases hat with e1 | e1
    · left; rw [← e1]; rfl
    · right; simpa [Value.ownBlock] using e1)
  unfold Oper.wp execOp
  simp only [ho, resolve, invoke, builtin, Sem.run_bind, Sem.run_pure, Result.andThen_ok, List.map_toArray, List.map_cons, List.map_nil, hs, hx, hr]
  rw [hlen']
  exact hk
theorem step_rows_at (R : Ro P t e k by_ f) {ops : Array Oper} {o : Oper} {a : Act} {K : Act → World → Prop} {Q : Exit → Act → World → Prop} {E : Prop} (hgd : o.guard = none) (s x : Operand)
    (ho : o.op = .call { callee := .builtin .append, args := #[s, x], argTypes := #[t, t] }) (n : Nat) (hs : a.eval s = .slice A n c) (hn : l.length = n) (hown : Ow e k f w B A c l)
    (y : β) (b c' : Nat) (hx : a.eval x = .slice (some ⟨b, 0, none⟩) 1 c') (hR : Rw k f w (some ⟨b, 0, none⟩) [y])
    (hlen : n + 1 ≤ 1099511627776) (hbase : B ≤ w.heap.size) (s' : Nat) (hsum : n + 1 = s')
    (h : ∀ g2 c2 w', Ow e k f w' B (some ⟨g2, 0, none⟩) c2 (l ++ [y]) → w.grownBy w' (Value.slice A n c).ownBlock → Below B w w' → ((Value.slice A n c).ownBlock = some g2 ∨ g2 = w.heap.size) → K (a.put o.dst (.slice (some ⟨g2, 0, none⟩) s' c2)) w') : if Region.wanted o (yielded ops a.tmps) = true then o.wp P a w K Q else E := by
  have hw : Region.wanted o (yielded ops a.tmps) = true := by simp [Region.wanted, hgd]
  rw [if_pos hw]
  exact op_rows_at R s x ho n hs hn hown y b c' hx hR hlen hbase s' hsum h
end
end Go.Proofs.YtinbegnojfpeiaaDoor
