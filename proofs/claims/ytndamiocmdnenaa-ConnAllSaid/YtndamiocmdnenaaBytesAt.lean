/- append of bytes, with the place at which the new row lies. Nothing of the program is named here. -/
import Derived.Test.YtndamiocmdnenaaAppOp
import Derived.Maps.AppendAt
namespace Go.Proofs.Ytndamiocmdnenaa
set_option linter.unusedVariables false
set_option maxRecDepth 100000
set_option linter.unusedSimpArgs false
open Go.RowKit

theorem OB.low {w : World} {B B' : Nat} {e : TypeId} {A : Option Addr} {c : Nat} {l : List UInt8} (h : OB w B e A c l) (hB : B' ≤ B) : OB w B' e A c l := by
  refine ⟨h.1, ?_⟩
  rcases h.2 with hn | ⟨g, cap, cur, hv, hg, r⟩
  · exact .inl hn
  · exact .inr ⟨g, cap, cur, hv, Nat.le_trans hB hg, r⟩

/-- append of bytes to bytes, neither being none: where the new row lies. -/
theorem wp_app_at {P : Program} {ops : Array Oper} {rest : List Oper} {o : Oper} {a : Act} {Q : Exit → Act → World → Prop} {w : World} (hgd : o.guard = none) (s x : Operand) (t e : TypeId)
    (ho : o.op = .call { callee := .builtin .append, args := #[s, x], argTypes := #[t, t] }) (ht : P.underlying t = some (.slice e))
    (hi : (P.info? e).map (fun i => (i.zero, i.size, i.bytes)) = some (some (.int .u8 0), 1, 1)) (B : Nat) (l : List UInt8) (g : Nat) (n c : Nat) (hs : a.eval s = .slice (some ⟨g, 0, none⟩) n c) (hn : l.length = n) (hown : OB w B e (some ⟨g, 0, none⟩) c l) (h0 : l ≠ [])
    (k : List UInt8) (gk m c' B' : Nat) (hx : a.eval x = .slice (some ⟨gk, 0, none⟩) m c') (hm : k.length = m) (hR : Rb w B' (some ⟨gk, 0, none⟩) k)
    (hlen : l.length + k.length ≤ 140737488355328) (hbase : B ≤ w.heap.size)
    (h : ∀ g2 c2 w', OB w' B e (some ⟨g2, 0, none⟩) c2 (l ++ k) → w.grownBy w' (some g) → Below B w w' → (g2 = g ∨ g2 = w.heap.size) → wpList P ops Q rest (a.put o.dst (.slice (some ⟨g2, 0, none⟩) (l ++ k).length c2)) w') : wpList P ops Q (o :: rest) a w := by
  subst hn; subst hm
  obtain ⟨i, hi1, hz, hsz, hby⟩ := info_parts hi
  refine wpList_append_own_at w hgd s x t ho B e i (.int .u8 0) 1 1 ht hi1 hz hsz hby rfl (by decide) _ l.length (l.map u8) hs hown ⟨gk, 0, none⟩ k.length c' (k.map u8) hx (by simp) ?_ ?_ (by unfold maxLen; omega) (by omega) hbase ?_
  · intro j u hu
    have hj : j < k.length := by
      rcases Nat.lt_or_ge j k.length with h1 | h1
      · exact h1
      · rw [List.getElem?_eq_none (by simpa using h1)] at hu; cases hu
    rcases hR with h0 | ⟨b, off, e1, _, hc⟩
    · subst h0; simp at hj
    · injection e1 with e1
      rw [e1, add_plain, hc j hj]
      simp [hj] at hu
      exact congrArg some hu
  · intro u hu
    obtain ⟨b, _, rfl⟩ := List.mem_map.1 hu
    rfl
  · intro v' w' hown' hg _ hat
    have hbel : Below B w w' := (Below.refl B w).grown hg hbase (fun k hk => (World.ownsRow.lt hown k hk).1)
    have hlen' : (l ++ k).length = l.length + k.length := List.length_append
    have hp : 0 < l.length + k.length := by have := List.length_pos_iff.2 h0; omega
    obtain ⟨g2, cap, rfl, _, _⟩ := World.ownsRow.form hown' hp
    have := h g2 cap w' (by unfold OB; rw [hlen', List.map_append]; exact hown') hg hbel (by
      rcases hat with e1 | e1
      · left; simpa [Value.ownBlock] using e1
      · right; simpa [Value.ownBlock] using e1)
    rwa [hlen'] at this
end Go.Proofs.Ytndamiocmdnenaa
