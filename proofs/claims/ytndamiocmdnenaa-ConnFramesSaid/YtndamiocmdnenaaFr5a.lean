/- What the loop of frame.Cut keeps in memory. -/
import Derived.Test.YtndamiocmdnenaaFr4
import Derived.ScopeJumps
import Derived.RangeFuncBox
import Derived.Maps.AppendAt
namespace Go.Proofs.Ytndamiocmdnenaa
set_option linter.unusedVariables false
set_option maxRecDepth 100000
set_option linter.unusedSimpArgs false
open Go.RowKit Go.Shelf

/-- How many bytes frames have, as they are added up. -/
def sumF : List (List UInt8) → Nat
  | [] => 0
  | l :: L => l.length + 2 + sumF L
theorem sum_snoc (L : List (List UInt8)) (l : List UInt8) : sumF (L ++ [l]) = sumF L + (2 + l.length) := by
  induction L with
  | nil => show l.length + 2 + 0 = 0 + _; omega
  | cons x L ih => show x.length + 2 + sumF (L ++ [l]) = x.length + 2 + sumF L + _; rw [ih]; omega
theorem sum_join (L : List (List UInt8)) (h : ∀ x ∈ L, fineB x = true) : sumF L = (joinF L).length := by
  induction L with
  | nil => rfl
  | cons x L ih =>
    rw [join_cons, List.length_append, put_len x (h x (List.mem_cons_self ..)), ← ih (fun y hy => h y (List.mem_cons_of_mem _ hy))]
    rfl
theorem sum_le (L : List (List UInt8)) (h : ∀ x ∈ L, x.length ≤ 200) : sumF L ≤ 202 * L.length := by
  induction L with
  | nil => exact Nat.le_refl _
  | cons x L ih =>
    have h1 := h x (List.mem_cons_self ..)
    have h2 := ih (fun y hy => h y (List.mem_cons_of_mem _ hy))
    show x.length + 2 + sumF L ≤ 202 * (L.length + 1)
    omega
theorem sum_ge (L : List (List UInt8)) : 2 * L.length ≤ sumF L := by
  induction L with
  | nil => exact Nat.le_refl _
  | cons x L ih => show 2 * (L.length + 1) ≤ x.length + 2 + sumF L; omega
theorem cut_count (l : List UInt8) : (cutF l).length ≤ l.length := by
  have h := cut_is l
  have h1 := sum_join _ h.1
  have h2 := sum_ge (cutF l)
  have h3 := done_le l
  unfold doneF at h3
  omega
theorem cut_done (l : List UInt8) : sumF (cutF l) = doneF l := sum_join _ (cut_is l).1

/-- A store into a variable that holds no byte. -/
theorem El.store {w : World} {B : Nat} {A : Option Addr} {c : Nat} {l : List UInt8} (h : El w B A c l) {b0 : Nat} {t : TypeId} {v : Value} (hv : Boxed w b0 t v) (hne : ∀ z, v ≠ .int .u8 z) (u : Value) : El (w.setCell ⟨b0, 0, none⟩ u) B A c l := by
  refine ⟨h.cap, h.max, h.nil_, ?_⟩
  by_cases h0 : l = []
  · exact .inl h0
  have hp : 0 < l.length := List.length_pos_iff.2 h0
  rcases h.at_ with h1 | ⟨b, o, e, hb, ht, hc⟩
  · exact .inl h1
  · have hbb : b ≠ b0 := by
      intro e0
      subst e0
      have h2 := hc 0 hp
      have h3 := cell_of_row w b (o + 0) #[v] t (0, 0) hv
      rw [h3] at h2
      obtain ⟨hlt, h4⟩ := Array.getElem?_eq_some_iff.1 h2
      have e1 : o + 0 = 0 := by simp at hlt; omega
      rw [e1] at h2
      exact hne _ (Option.some.inj h2)
    have e1 : (w.setCell ⟨b0, 0, none⟩ u).heap[b]? = w.heap[b]? := Below.heap_setCell _ _ _ _ hbb
    refine .inr ⟨b, o, e, by rw [World.size_setCell]; exact hb, fun cs fr => by rw [e1]; exact ht cs fr, fun i hi => ?_⟩
    rw [World.cell?_of_block (w := w) (show _ = w.heap[b]? from e1)]
    exact hc i hi
theorem El.drew {w : World} {B : Nat} {A : Option Addr} {c : Nat} {l : List UInt8} (h : El w B A c l) : El w.drew B A c l := ⟨h.cap, h.max, h.nil_, h.at_⟩
theorem OL.drew {w : World} {B E : Nat} {A : Option Addr} {c : Nat} {L : List (List UInt8)} (h : OL w B E A c L) : OL w.drew B E A c L := by
  obtain ⟨vs, h1, h2⟩ := h
  exact ⟨vs, World.ownsRow.drew h1, h2.map (fun _ _ _ h => h.drew)⟩
/-- A variable's box is no row of slices. -/
theorem OL.not_box {w : World} {B E : Nat} {A : Option Addr} {n c : Nat} {L : List (List UInt8)} (h : OL w B E A c L) {b0 : Nat} {t : TypeId} {v : Value} (hv : Boxed w b0 t v) (ht : t ≠ 28) : some b0 ≠ (Value.slice A n c).ownBlock := fun e => by
  obtain ⟨_, _, cs, fr, hh⟩ := h.row (n := n) b0 e.symm
  rw [show w.heap[b0]? = _ from hv] at hh
  injection hh with hh
  injection hh with _ h2
  exact ht h2
theorem OL.store {w : World} {B E : Nat} {A : Option Addr} {c : Nat} {L : List (List UInt8)} (h : OL w B E A c L) {b0 : Nat} {t : TypeId} {v : Value} (hv : Boxed w b0 t v) (ht : t ≠ 28) (hne : ∀ z, v ≠ .int .u8 z) (u : Value) : OL (w.setCell ⟨b0, 0, none⟩ u) B E A c L := by
  obtain ⟨vs, h1, h2⟩ := h
  refine ⟨vs, h1.kept (grownBy_setCell' w b0 u) (.inr (fun e => ?_)), h2.map (fun _ _ _ he => he.store hv hne u)⟩
  exact OL.not_box (n := L.length) ⟨vs, h1, h2⟩ hv ht e.symm
theorem OL.own (B E B' : Nat) (A : Option Addr) (c : Nat) (L : List (List UInt8)) : OwnFrom B' (fun (_ : Unit) W => OL W B E A c L) := fun _ W W' row hs hg hr => by
  obtain ⟨vs, h1, h2⟩ := hs
  refine ⟨vs, h1.kept hg ?_, h2.map (fun _ _ _ he => El.own E B' _ _ _ () W W' row he hg hr)⟩
  rcases h1.2 with ⟨hv, _⟩ | ⟨g, cap, cur, hv, _, hgb, _⟩
  · rw [hv]; exact .inl rfl
  · rw [hv]
    refine .inr fun e => ?_
    obtain ⟨_, o, ho, hc⟩ := hr g (by simpa [Value.ownBlock] using e.symm)
    rw [hgb] at ho; cases ho; cases hc
theorem OL.keeps {w w' : World} {B E : Nat} {A : Option Addr} {n c : Nat} {L : List (List UInt8)} (h : OL w B E A c L) (hg : w.grownBy w' (Value.slice A n c).ownBlock) : KeepsOthers w w' :=
  KeepsOthers.of_grownBy hg fun j o ej hj => by
    obtain ⟨_, _, cs, fr, hh⟩ := h.row (n := n) j ej
    rw [hh] at hj; cases hj; rfl

/-- append of one slice, just laid into a row of its own, in a loop's round. -/
theorem wpListIn_appl1 {F : Fence} {fu : Nat} {ops : Array Oper} {rest : List Oper} {o : Oper} {a : Act} {Q : Exit → Act → World → Prop} {w : World} (hgd : o.guard = none) (s x : Operand)
    (ho : o.op = .call { callee := .builtin .append, args := #[s, x], argTypes := #[45, 45] }) (B E : Nat) (hE : E ≤ B) (L : List (List UInt8)) (A : Option Addr) (n c : Nat) (hs : a.eval s = .slice A n c) (hn : L.length = n) (hown : OL w B E A c L)
    (l : List UInt8) (A' : Option Addr) (m c' : Nat) (hx : a.eval x = .slice (some ⟨w.heap.size, 0, none⟩) 1 1) (hl : l.length = m) (hel : El w E A' c' l)
    (hlen : L.length + 1 ≤ 1099511627776) (hbase : B ≤ w.heap.size)
    (h : ∀ A2 c2 w', OL w' B E A2 c2 (L ++ [l]) → (w.alloc (.cells #[.slice A' m c'] 28)).grownBy w' (Value.slice A n c).ownBlock → Below B w w' → wpListIn F fu Try.prog ops Q rest (a.put o.dst (.slice A2 (n + 1) c2)) w') : wpListIn F fu Try.prog ops Q (o :: rest) a (w.alloc (.cells #[.slice A' m c'] 28)) := by
  subst hn
  obtain ⟨w1, hw1⟩ : ∃ w1, w.alloc (.cells #[.slice A' m c'] 28) = w1 := ⟨_, rfl⟩
  have hb := (Below.refl w.heap.size w).alloc (Nat.le_refl _) (.cells #[.slice A' m c'] 28)
  have hcell := cell_one_new w (.slice A' m c') 28
  rw [hw1] at hb hcell h ⊢
  have hown1 := hown.below hb
  obtain ⟨vs, h1, h2⟩ := hown1
  have hel1 : Els w1 E [.slice A' m c'] [l] := Els.one (hel.below hb) hl
  obtain ⟨i, hi1, hz, hsz, hby⟩ := info_parts fr_info
  refine wpListIn_append_own w1 hgd s x 45 ho B 28 i (.slice none 0 0) 1 24 Try.underlying45 hi1 hz hsz hby rfl (by decide) _ L.length vs hs h1 ⟨w.heap.size, 0, none⟩ 1 1 [.slice A' m c'] hx rfl hcell hel1.cells (by unfold maxLen; omega) (by omega) (Nat.le_trans hbase hb.size) ?_
  intro v' w' hown' hg _
  have hbel : Below B w w' := (hb.mono hbase).trans ((Below.refl B w1).grown hg (Nat.le_trans hbase hb.size) (fun k hk => (World.ownsRow.lt h1 k hk).1))
  have hgr : ∀ g, (Value.slice A L.length c).ownBlock = some g → B ≤ g ∧ ∃ cs fr, w1.heap[g]? = some (.cells cs 28 fr) := fun g hg' => by
    obtain ⟨k1, _, k3⟩ := OL.row (n := L.length) ⟨vs, h1, h2⟩ g hg'
    exact ⟨k1, k3⟩
  have hels : Els w' E (vs ++ [.slice A' m c']) (L ++ [l]) := (h2.app hel1).map (fun _ _ _ he => he.grown hg (fun g e => by obtain ⟨h1, h2⟩ := hgr g e; exact ⟨Nat.le_trans hE h1, h2⟩))
  obtain ⟨g, cap, rfl⟩ := ownsRow_succ hown'
  have e : (L ++ [l]).length = L.length + 1 := by simp
  exact h (some ⟨g, 0, none⟩) cap w' ⟨_, by rw [e]; exact hown', hels⟩ hg hbel

/-- Between two rounds. -/
structure CutI (w : World) (pre : List Fr) (W : World) : Prop where
  r0 : Boxed W w.heap.size 45 (.slice none 0 0)
  r1 : Boxed W (w.heap.size + 1) 3 (.int .i64 0)
  r2 : Boxed W (w.heap.size + 1 + 1) 32 (.int .i64 0)
  all_ : ∃ A2 c2, Boxed W (w.heap.size + 1 + 1 + 1) 45 (.slice A2 pre.length c2) ∧ OL W w.heap.size 0 A2 c2 (pre.map (·.l))
  many : Boxed W (w.heap.size + 1 + 1 + 1 + 1) 3 (.int .i64 (sumF (pre.map (·.l)) : Nat))
  ok : ∀ x ∈ pre, x.e = 0
  size : w.heap.size + 6 ≤ W.heap.size
  b : Below w.heap.size w W
/-- Behind a round that has returned. -/
structure CutX (w : World) (pre : List Fr) (W : World) : Prop where
  at_ : ∃ (ys : List Fr) (x : Fr) (A2 : Option Addr) (c2 : Nat), pre = ys ++ [x] ∧ x.e ≠ 0 ∧ (∀ y ∈ ys, y.e = 0) ∧ Boxed W w.heap.size 45 (.slice A2 ys.length c2) ∧ OL W w.heap.size 0 A2 c2 (ys.map (·.l)) ∧
    Boxed W (w.heap.size + 1) 3 (.int .i64 (sumF (ys.map (·.l)) : Nat)) ∧ Boxed W (w.heap.size + 1 + 1) 32 (.int .i64 (x.e : Int))
  b : Below w.heap.size w W
theorem boxed_stays {W W' : World} {b0 : Nat} {t : TypeId} {v : Value} {row : Option Nat} {B : Nat} (h : Boxed W b0 t v) (hg : W.grownBy W' row) (hr : ∀ r, row = some r → B ≤ r ∧ ∃ o : Obj, W.heap[r]? = some o ∧ o.isCells = false) : Boxed W' b0 t v :=
  h.kept hg (fun e => by obtain ⟨_, o, ho, hc⟩ := hr b0 e.symm; rw [show W.heap[b0]? = _ from h] at ho; cases ho; cases hc)
theorem cutI_own (w : World) (B : Nat) (hB : w.heap.size ≤ B) : OwnFrom B (CutI w) := fun pre W W' row hs hg hr => by
  obtain ⟨A2, c2, ha, ho⟩ := hs.all_
  exact ⟨boxed_stays hs.r0 hg hr, boxed_stays hs.r1 hg hr, boxed_stays hs.r2 hg hr, ⟨A2, c2, boxed_stays ha hg hr, OL.own _ _ B _ _ _ () W W' row ho hg hr⟩, boxed_stays hs.many hg hr, hs.ok, Nat.le_trans hs.size hg.size,
    ownFrom_below (Nat.le_refl _) hB pre W W' row hs.b hg hr⟩
theorem cutX_own (w : World) (B : Nat) (hB : w.heap.size ≤ B) : OwnFrom B (CutX w) := fun pre W W' row hs hg hr => by
  obtain ⟨ys, x, A2, c2, e, h1, h2, h3, h4, h5, h6⟩ := hs.at_
  exact ⟨⟨ys, x, A2, c2, e, h1, h2, boxed_stays h3 hg hr, OL.own _ _ B _ _ _ () W W' row h4 hg hr, boxed_stays h5 hg hr, boxed_stays h6 hg hr⟩, ownFrom_below (Nat.le_refl _) hB pre W W' row hs.b hg hr⟩
end Go.Proofs.Ytndamiocmdnenaa
