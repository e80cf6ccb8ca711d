/- Arrays of words in memory, known whole. Nothing of the program is named here. -/
import Derived.Test.YtimhjmeebahdaaaDoorWord
import Derived.Test.YtimhjmeebahdaaaDoorBase
import Derived.Laws.Rows
import Derived.Laws.Tables
import Derived.Laws.CopyOwn
namespace Go.Proofs.YtimhjmeebahdaaaDoor
set_option linter.unusedVariables false
set_option linter.unusedSimpArgs false
open Go.RowKit

/-- Words as cells. -/
def wcells (l : List Nat) : Array Value := (l.map wd).toArray
theorem wcells_size (l : List Nat) : (wcells l).size = l.length := by simp [wcells]
theorem wcells_at (l : List Nat) (i : Nat) (h : i < l.length) : (wcells l)[i]? = some (wd (l.getD i 0)) := by simp [wcells, h, List.getD]
theorem wcells_one (l : List Nat) : (wcells l).all (·.oneCell') = true := by
  rw [Array.all_eq_true_iff_forall_mem]
  intro v hv
  simp only [wcells, List.mem_toArray, List.mem_map] at hv
  obtain ⟨x, _, rfl⟩ := hv
  rfl
/-- The first words of n, the others 0. -/
def pre (l : List Nat) (n : Nat) : List Nat := l ++ List.replicate (n - l.length) 0
theorem pre_len (l : List Nat) (n : Nat) (h : l.length ≤ n) : (pre l n).length = n := by simp [pre]; omega
theorem pre_full (l : List Nat) (n : Nat) (h : l.length = n) : pre l n = l := by simp [pre, h]
theorem pre_at (l : List Nat) (n j : Nat) (h : j < l.length) : (pre l n).getD j 0 = l.getD j 0 := by
  simp [pre, List.getD, List.getElem?_append, h]
theorem wcells_set (l : List Nat) (i x : Nat) : (wcells l).setIfInBounds i (wd x) = wcells (l.set i x) := by
  simp [wcells, List.map_set]
theorem pre_set (l : List Nat) (n x : Nat) (h : l.length < n) : (pre l n).set l.length x = pre (l ++ [x]) n := by
  unfold pre
  obtain ⟨k, hk⟩ : ∃ k, n - l.length = k + 1 := ⟨n - l.length - 1, by omega⟩
  have e : n - (l ++ [x]).length = k := by simp; omega
  rw [hk, e, List.set_append_right _ _ (Nat.le_refl _), Nat.sub_self, List.replicate_succ, List.set_cons_zero]
  simp

theorem take_next (l : List Nat) (i : Nat) (h : i < l.length) : l.take i ++ [l.getD i 0] = l.take (i + 1) := by
  rw [List.take_add_one, List.getD, List.getElem?_eq_getElem h]; rfl
/-- The cell that is written next, and what lies there then. -/
theorem pre_next (l : List Nat) (n i x : Nat) (hn : l.length = n) (hi : i < n) (hx : l.getD i 0 = x) :
    (wcells (pre (l.take i) n))[i]? = some (wd 0) ∧ (wcells (pre (l.take i) n)).setIfInBounds i (wd x) = wcells (pre (l.take (i + 1)) n) := by
  have hl : (l.take i).length = i := by rw [List.length_take]; omega
  constructor
  · rw [wcells_at _ _ (by rw [pre_len _ _ (by omega)]; exact hi)]
    congr 2
    unfold pre
    rw [List.getD, List.getElem?_append_right (by omega), hl, Nat.sub_self]
    rw [List.getElem?_replicate]
    split <;> rfl
  · rw [wcells_set, ← take_next l i (by omega), hx]
    have := pre_set (l.take i) n x (by omega)
    rw [hl] at this
    rw [this]
theorem splice_pre (l : List Nat) (n : Nat) (h : l.length ≤ n) : splice ((pre [] n).map wd) 0 (l.map wd) = (pre l n).map wd := by
  simp only [splice, pre, List.take_zero, List.nil_append, List.length_map, Nat.zero_add, List.length_nil, Nat.sub_zero, List.map_replicate, List.drop_replicate, List.map_append]
/-- One array is being filled: all below it stands, and but for one place it is as it was. -/
def Fill (wr : World) (g : Nat) (t : TypeId) (C : Array Value) (i : Nat) (u : World) : Prop := Below g wr u ∧ ∃ x, Bk u g t (C.setIfInBounds i x)
theorem Fill.first {wr : World} {g : Nat} {t : TypeId} {C : Array Value} {i : Nat} (h : Bk wr g t C) (hi : i < C.size) : Fill wr g t C i wr.drew :=
  ⟨(Below.refl _ _).drew, C[i], by
    have : C.setIfInBounds i C[i] = C := by
      apply Array.ext
      · simp
      · intro j h1 h2
        rw [Array.getElem_setIfInBounds]
        split
        · rename_i e; subst e; rfl
        · rfl
    rw [this]; exact h.drew⟩
theorem Fill.below {wr : World} {g : Nat} {t : TypeId} {C : Array Value} {i : Nat} {u u' : World} (h : Fill wr g t C i u) (hb : Below u.heap.size u u') : Fill wr g t C i u' := by
  obtain ⟨h1, x, h2⟩ := h
  have hg := h2.lt
  exact ⟨h1.trans (hb.mono (by omega)), x, h2.below hb hg⟩
theorem Fill.cell {wr : World} {g : Nat} {t : TypeId} {C : Array Value} {i : Nat} {u : World} (h : Fill wr g t C i u) (j : Nat) (hj : j ≠ i) : u.cell? ⟨g, j, none⟩ = C[j]? := by
  obtain ⟨_, x, h2⟩ := h
  rw [h2.cell, Array.getElem?_setIfInBounds, if_neg (Ne.symm hj)]
theorem Fill.here {wr : World} {g : Nat} {t : TypeId} {C : Array Value} {i : Nat} {u : World} (h : Fill wr g t C i u) (hi : i < C.size) : ∃ v, u.cell? ⟨g, i, none⟩ = some v := by
  obtain ⟨_, x, h2⟩ := h
  exact ⟨x, by rw [h2.cell, Array.getElem?_setIfInBounds, if_pos rfl, if_pos hi]⟩
theorem Fill.frozen {wr : World} {g : Nat} {t : TypeId} {C : Array Value} {i : Nat} {u : World} (h : Fill wr g t C i u) (j : Nat) : u.frozen? ⟨g, j, none⟩ = false := by
  obtain ⟨_, x, h2⟩ := h
  exact h2.frozen j
theorem Fill.set {wr : World} {g : Nat} {t : TypeId} {C : Array Value} {i : Nat} {u : World} (h : Fill wr g t C i u) (v : Value) :
    Fill wr g t C i (u.setCell ⟨g, i, none⟩ v) ∧ Bk (u.setCell ⟨g, i, none⟩ v) g t (C.setIfInBounds i v) ∧ Below g wr (u.setCell ⟨g, i, none⟩ v) := by
  obtain ⟨h1, x, h2⟩ := h
  have e : (C.setIfInBounds i x).setIfInBounds i v = C.setIfInBounds i v := by
    simp
  have hb : Bk (u.setCell ⟨g, i, none⟩ v) g t (C.setIfInBounds i v) := by
    have := h2.set i v
    rw [e] at this
    exact this
  have hB : Below g wr (u.setCell ⟨g, i, none⟩ v) := h1.setCell (p := ⟨g, i, none⟩) (Nat.le_refl _) _
  exact ⟨⟨hB, v, hb⟩, hb, hB⟩
/-- An element of an array that is a value. -/
theorem wpList_index {P : Program} {ops : Array Oper} {rest : List Oper} {o : Oper} {a : Act} {Q : Exit → Act → World → Prop} {w : World} (hgd : o.guard = none) (t : TypeId) (x i : Operand) (ho : o.op = .index t x i) (vx vi v : Value) (hx : a.eval x = vx) (hi : a.eval i = vi)
    (hr : (Instr.index t vx vi).run P w = .ok v w) (h : wpList P ops Q rest (a.put o.dst v) w) : wpList P ops Q (o :: rest) a w :=
  wpList_plain hgd fun _ hK => by
    unfold Oper.wp execOp
    simp only [ho, hx, hi, Sem.run_bind, hr, Result.andThen_ok, Sem.run_pure]
    exact hK _ _ h
/-- From here on the world is one of which S holds. -/
theorem gen_world {P : Program} {c : Code} {Q : Exit → Act → World → Prop} {a : Act} {w : World} (S : World → Prop) (hS : S w) (h : ∀ u, S u → c.wp P Q a u) : c.wp P Q a w := h w hS
theorem Bk.setRow {w : World} {g : Nat} {t : TypeId} {cs : Array Value} (h : Bk w g t cs) (cs' : Array Value) : Bk (w.setRow g cs') g t cs' := setRow_heap w g cs cs' t (0, 0) h
theorem Bk.setRowFar {w : World} {g g' : Nat} {t : TypeId} {cs : Array Value} (h : Bk w g t cs) (hg : g ≠ g') (cs' : Array Value) : Bk (w.setRow g' cs') g t cs := by
  have : (w.setRow g' cs').heap[g]? = w.heap[g]? := by
    unfold World.setRow
    simp only [Array.getElem?_modify]
    rw [if_neg (Ne.symm hg)]
  exact this.trans h
theorem Below.setRow {B : Nat} {a w : World} (h : Below B a w) (g : Nat) (hg : B ≤ g) (cs : Array Value) : Below B a (w.setRow g cs) :=
  ⟨h.os, h.tape, h.output, by show a.heap.size ≤ (w.heap.modify g _).size; rw [Array.size_modify]; exact h.size, fun i hi => by
    have : (w.setRow g cs).heap[i]? = w.heap[i]? := by
      unfold World.setRow
      simp only [Array.getElem?_modify]
      rw [if_neg (by omega)]
    exact this.trans (h.block i hi)⟩
theorem Bk.drewN' {w : World} {g : Nat} {t : TypeId} {cs : Array Value} (h : Bk w g t cs) (n : Nat) : Bk (w.drewN n) g t cs := h
end Go.Proofs.YtimhjmeebahdaaaDoor
