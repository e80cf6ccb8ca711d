/- CgO, RowsAt, QuZ: texts of this seat, one behind the other. -/
import Derived.Test.YtikkiifcnjiegaaG10
import Derived.Test.YtikkiifcnjiegaaG2
import Derived.Maps.AppendAt
import Derived.Test.YtikkiifcnjiegaaQuX
/- Rows of structs that the call owns; append of rows of structs. -/
namespace Go.Proofs.Ytikkiifcnjiegaa
set_option linter.unusedVariables false
set_option maxRecDepth 100000
set_option linter.unusedSimpArgs false
open Go.RowKit

def fl {β : Type} (f : β → Array Value) (l : List β) : List Value := l.flatMap fun x => (f x).toList
theorem fl_app {β : Type} (f : β → Array Value) (a b : List β) : fl f (a ++ b) = fl f a ++ fl f b := by simp [fl]
theorem fl_length {β : Type} {k : Nat} {f : β → Array Value} (hf : ∀ x, (f x).size = k) : ∀ l : List β, (fl f l).length = l.length * k
  | [] => by simp [fl]
  | x :: l => by
    have := fl_length hf l
    simp only [fl, List.flatMap_cons, List.length_append, Array.length_toList, hf, List.length_cons] at this ⊢
    rw [this, Nat.add_mul, Nat.one_mul, Nat.add_comm]
theorem fl_at {β : Type} {k : Nat} {f : β → Array Value} (hf : ∀ x, (f x).size = k) : ∀ (l : List β) (i : Nat) (h : i < l.length) (j : Nat), j < k → (fl f l)[i * k + j]? = (f l[i])[j]?
  | [], i, h, _, _ => by simp at h
  | x :: l, 0, h, j, hj => by
    simp only [fl, List.flatMap_cons, Nat.zero_mul, Nat.zero_add, List.getElem_cons_zero]
    rw [List.getElem?_append_left (by rw [Array.length_toList, hf]; exact hj), Array.getElem?_toList]
  | x :: l, i + 1, h, j, hj => by
    have := fl_at hf l i (by simpa using h) j hj
    simp only [fl, List.flatMap_cons, List.getElem_cons_succ] at this ⊢
    rw [List.getElem?_append_right (by rw [Array.length_toList, hf, Nat.add_mul]; omega), Array.length_toList, hf, Nat.add_mul, Nat.one_mul, ← this]
    congr 1
    omega
theorem fl_mem {β : Type} {f : β → Array Value} {l : List β} {u : Value} (h : u ∈ fl f l) : ∃ x ∈ l, u ∈ f x := by
  obtain ⟨x, hx, hu⟩ := List.mem_flatMap.1 h
  exact ⟨x, hx, by simpa using hu⟩
theorem fl_all {β : Type} {k : Nat} {f : β → Array Value} (hf : ∀ x, (f x).size = k) (hk : 0 < k) (l : List β) (q : Nat) (u : Value) (h : (fl f l)[q]? = some u) : ∃ i j, ∃ hi : i < l.length, j < k ∧ q = i * k + j ∧ (f l[i])[j]? = some u := by
  have hq : q < l.length * k := by
    have := (List.getElem?_eq_some_iff.1 h).1
    rwa [fl_length hf] at this
  have h1 : q / k < l.length := (Nat.div_lt_iff_lt_mul hk).2 hq
  have h2 := Nat.mod_lt q hk
  have h3 : q = q / k * k + q % k := by rw [Nat.mul_comm]; exact (Nat.div_add_mod q k).symm
  refine ⟨q / k, q % k, h1, h2, h3, ?_⟩
  rw [← fl_at hf l (q / k) h1 (q % k) h2, ← h3, h]

/-- How rows of a type lie. -/
structure Ro {β : Type} (P : Program) (t e : TypeId) (k by_ : Nat) (f : β → Array Value) : Prop where
  ht : P.underlying t = some (.slice e)
  hi : ∃ i z, P.info? e = some i ∧ i.zero = some z ∧ i.size = k ∧ i.bytes = by_ ∧ z.cells.size = k
  k0 : 0 < k
  fs : ∀ x, (f x).size = k
  one : ∀ x, ∀ u ∈ f x, u.oneCell' = true
  few : by_ ≤ 128

/-- The slice at A, of capacity c, owns the rows l: it lies at block B or behind it. -/
def Ow {β : Type} (e : TypeId) (k : Nat) (f : β → Array Value) (w : World) (B : Nat) (A : Option Addr) (c : Nat) (l : List β) : Prop := w.ownsRow B e k (.slice A l.length c) l.length (fl f l)

section
variable {β : Type} {P : Program} {t e : TypeId} {k by_ : Nat} {f : β → Array Value} {w w' : World} {B : Nat} {A : Option Addr} {c : Nat} {l : List β}

theorem Ow.nil (w : World) (B : Nat) : Ow e k f w B none 0 [] := World.ownsRow_nil w B e k
theorem Ow.rw_ (hf : ∀ x, (f x).size = k) (h : Ow e k f w B A c l) : Rw k f w A l := by
  by_cases h0 : l = []
  · exact .inl h0
  · have hp : 0 < l.length := List.length_pos_iff.2 h0
    obtain ⟨g, cap, hv, hb, hl⟩ := World.ownsRow.form h hp
    injection hv with h1 _ _
    subst h1
    refine .inr ⟨g, 0, rfl, hl, fun i hi j hj => ?_⟩
    have hlt : i * k + j < l.length * k := by
      have h2 : (i + 1) * k ≤ l.length * k := Nat.mul_le_mul_right k (by omega)
      rw [Nat.add_mul, Nat.one_mul] at h2
      omega
    have e1 := World.ownsRow.cellAt h (i * k + j) hlt
    rw [Nat.zero_add, e1, fl_at hf l i hi j hj]
theorem Ow.fit (h : Ow e k f w B A c l) : Fit A l.length c := by
  rcases h.2 with ⟨hv, h0⟩ | ⟨g, cap, cur, hv, _, _, hn, hm, _⟩
  · injection hv with h1 _ h3
    exact ⟨by omega, by omega, fun _ => ⟨h0, h3⟩⟩
  · injection hv with h1 _ h3
    unfold maxLen at hm
    exact ⟨by omega, by omega, fun e => by rw [e] at h1; cases h1⟩
/-- What the call owns stays owned where its block stays. -/
theorem Ow.keep (h : Ow e k f w B A c l) (hk : ∀ g cs, B ≤ g → Bk w g e cs → Bk w' g e cs) : Ow e k f w' B A c l := by
  refine ⟨h.1, ?_⟩
  rcases h.2 with hn | ⟨g, cap, cur, hv, hg, hh, r⟩
  · exact .inl hn
  · exact .inr ⟨g, cap, cur, hv, hg, hk g cur hg hh, r⟩
theorem Ow.set (h : Ow e k f w B A c l) {p : Addr} (hp : p.block < B) (v : Value) : Ow e k f (w.setCell p v) B A c l := h.keep fun g cs hg hh => hh.far (by omega) v
theorem Ow.on (h : Ow e k f w B A c l) (hb : Below w.heap.size w w') : Ow e k f w' B A c l := h.keep fun g cs _ hh => hh.below hb hh.lt
/-- Its block. -/
theorem Ow.block (h : Ow e k f w B A c l) (n : Nat) (g : Nat) (hn : (Value.slice A n c).ownBlock = some g) : B ≤ g ∧ g < w.heap.size ∧ ∃ cs, Bk w g e cs := by
  rcases h.2 with ⟨hv, _⟩ | ⟨g', cap, cur, hv, hb, hh, _⟩
  · injection hv with h1
    subst h1
    cases hn
  · injection hv with h1
    subst h1
    simp [Value.ownBlock] at hn
    subst hn
    exact ⟨hb, lt_of_block hh, cur, hh⟩
theorem Rw.bk {g : Nat} {t' : TypeId} {x : β} (h : Bk w g t' (f x)) : Rw k f w (some ⟨g, 0, none⟩) [x] :=
  .inr ⟨g, 0, rfl, h.lt, fun i hi j _ => by
    have hi0 : i = 0 := by simp at hi; omega
    subst hi0
    rw [h.cell]; simp⟩

/-- append of rows, as one operation. -/
theorem op_rows (R : Ro P t e k by_ f) {o : Oper} {a : Act} {K : Act → World → Prop} {Q : Exit → Act → World → Prop} (s x : Operand)
    (ho : o.op = .call { callee := .builtin .append, args := #[s, x], argTypes := #[t, t] }) (n : Nat) (hs : a.eval s = .slice A n c) (hn : l.length = n) (hown : Ow e k f w B A c l)
    (M : List β) (A' : Option Addr) (m c' : Nat) (hx : a.eval x = .slice A' m c') (hm : M.length = m) (hnil : A' = none → m = 0 ∧ c' = 0) (hR : Rw k f w A' M)
    (hlen : n + m ≤ 1099511627776) (hbase : B ≤ w.heap.size) (s' : Nat) (hsum : n + m = s')
    (h : ∀ A2 c2 w', Ow e k f w' B A2 c2 (l ++ M) → w.grownBy w' (Value.slice A n c).ownBlock → Below B w w' → K (a.put o.dst (.slice A2 s' c2)) w') : o.wp P a w K Q := by
  obtain ⟨i, z, hi1, hz, hsz, hby, hzc⟩ := R.hi
  subst hn; subst hm; subst hsum
  cases A' with
  | none =>
    obtain ⟨h0, rfl⟩ := hnil rfl
    have hk : M = [] := List.eq_nil_of_length_eq_zero h0
    subst hk
    have hrun := run_append_owned_none (P := P) (w := w) B t o.type e i k R.ht hi1 _ l.length (fl f l) hown
    unfold Oper.wp
    simp [execOp, ho, resolve, invoke, builtin, hs, hx, hrun, Result.andThen]
    have := h A c w (by simpa using hown) (World.grownBy.refl w _) (Below.refl B w)
    exact (by simpa using this : K (a.put o.dst (Value.slice A l.length c)) w)
  | some ad =>
    have hb8 : (l.length + M.length) * by_ ≤ 140737488355328 := Nat.le_trans (Nat.mul_le_mul hlen R.few) (by decide)
    refine wp_append_own w s x t ho B e i z k by_ R.ht hi1 hz hsz hby hzc R.k0 _ l.length (fl f l) hs hown ad M.length c' (fl f M) hx (fl_length R.fs M) ?_ ?_ (by unfold maxLen; omega) hb8 hbase ?_
    · intro q u hu
      obtain ⟨i', j, hi', hj, rfl, hv⟩ := fl_all R.fs R.k0 M q u hu
      rcases hR with h0 | ⟨b, o', e1, _, hc⟩
      · subst h0; simp at hi'
      · injection e1 with e1
        subst e1
        rw [add_plain, ← Nat.add_assoc, hc i' hi' j hj, hv]
    · intro u hu
      obtain ⟨y, _, hy⟩ := fl_mem hu
      exact R.one y u hy
    · intro v' w' hown' hg _
      have hbel : Below B w w' := (Below.refl B w).grown hg hbase (fun k hk => (World.ownsRow.lt hown k hk).1)
      have hlen' : (l ++ M).length = l.length + M.length := List.length_append
      rw [← fl_app] at hown'
      rw [← hlen'] at hown'
      by_cases h0 : l ++ M = []
      · rw [h0] at hown'
        rcases hown'.2 with ⟨rfl, _⟩ | ⟨g, cap, cur, rfl, _, r⟩
        · have := h none 0 w' (by rw [h0]; exact Ow.nil w' B) hg hbel
          rwa [← hlen', h0] at this
        · have := h (some ⟨g, 0, none⟩) cap w' (by rw [h0]; exact hown') hg hbel
          rwa [← hlen', h0] at this
      · have hp : 0 < (l ++ M).length := List.length_pos_iff.2 h0
        obtain ⟨g, cap, rfl, _, _⟩ := World.ownsRow.form hown' hp
        have := h (some ⟨g, 0, none⟩) cap w' hown' hg hbel
        rwa [← hlen'] at this
/-- The same, in a region that draws nothing. -/
theorem wp_rows (R : Ro P t e k by_ f) {ops : Array Oper} {rest : List Oper} {o : Oper} {a : Act} {Q : Exit → Act → World → Prop} (hw : Region.wanted o (yielded ops a.tmps) = true) (s x : Operand)
    (ho : o.op = .call { callee := .builtin .append, args := #[s, x], argTypes := #[t, t] }) (n : Nat) (hs : a.eval s = .slice A n c) (hn : l.length = n) (hown : Ow e k f w B A c l)
    (M : List β) (A' : Option Addr) (m c' : Nat) (hx : a.eval x = .slice A' m c') (hm : M.length = m) (hnil : A' = none → m = 0 ∧ c' = 0) (hR : Rw k f w A' M)
    (hlen : n + m ≤ 1099511627776) (hbase : B ≤ w.heap.size) (s' : Nat) (hsum : n + m = s')
    (h : ∀ A2 c2 w', Ow e k f w' B A2 c2 (l ++ M) → w.grownBy w' (Value.slice A n c).ownBlock → Below B w w' → wpList P ops Q rest (a.put o.dst (.slice A2 s' c2)) w') : wpList P ops Q (o :: rest) a w :=
  wpList_wanted hw fun K hK => op_rows R s x ho n hs hn hown M A' m c' hx hm hnil hR hlen hbase s' hsum (fun A2 c2 w' k1 k2 k3 => hK _ _ (h A2 c2 w' k1 k2 k3))
theorem wp_rows0 (R : Ro P t e k by_ f) {ops : Array Oper} {rest : List Oper} {o : Oper} {a : Act} {Q : Exit → Act → World → Prop} (hgd : o.guard = none) (s x : Operand)
    (ho : o.op = .call { callee := .builtin .append, args := #[s, x], argTypes := #[t, t] }) (n : Nat) (hs : a.eval s = .slice A n c) (hn : l.length = n) (hown : Ow e k f w B A c l)
    (M : List β) (A' : Option Addr) (m c' : Nat) (hx : a.eval x = .slice A' m c') (hm : M.length = m) (hnil : A' = none → m = 0 ∧ c' = 0) (hR : Rw k f w A' M)
    (hlen : n + m ≤ 1099511627776) (hbase : B ≤ w.heap.size) (s' : Nat) (hsum : n + m = s')
    (h : ∀ A2 c2 w', Ow e k f w' B A2 c2 (l ++ M) → w.grownBy w' (Value.slice A n c).ownBlock → Below B w w' → wpList P ops Q rest (a.put o.dst (.slice A2 s' c2)) w') : wpList P ops Q (o :: rest) a w :=
  wpList_plain hgd fun K hK => op_rows R s x ho n hs hn hown M A' m c' hx hm hnil hR hlen hbase s' hsum (fun A2 c2 w' k1 k2 k3 => hK _ _ (h A2 c2 w' k1 k2 k3))
/-- An empty row of its own. -/
theorem Ow.empty (w : World) (B : Nat) (hB : B ≤ w.heap.size) : Ow e k f (w.alloc (.cells #[] e)) B (some ⟨w.heap.size, 0, none⟩) 0 ([] : List β) := by
  have := World.ownsRow_lit (base := B) (e := e) (size := k) w #[] 0 hB (by unfold maxLen; omega) (by simp)
  exact this
end

end Go.Proofs.Ytikkiifcnjiegaa

/- append of one row, with the place of the new slice. Nothing of the program is named here. -/
namespace Go.Proofs.Ytikkiifcnjiegaa
set_option linter.unusedVariables false
set_option maxRecDepth 100000
set_option linter.unusedSimpArgs false
open Go.RowKit

section
variable {β : Type} {P : Program} {t e : TypeId} {k by_ : Nat} {f : β → Array Value} {w w' : World} {B : Nat} {A : Option Addr} {c : Nat} {l : List β}
/-- append of one row: where the new slice lies. -/
theorem wp_rows_at (R : Ro P t e k by_ f) {ops : Array Oper} {rest : List Oper} {o : Oper} {a : Act} {Q : Exit → Act → World → Prop} (hgd : o.guard = none) (s x : Operand)
    (ho : o.op = .call { callee := .builtin .append, args := #[s, x], argTypes := #[t, t] }) (n : Nat) (hs : a.eval s = .slice A n c) (hn : l.length = n) (hown : Ow e k f w B A c l)
    (y : β) (b c' : Nat) (hx : a.eval x = .slice (some ⟨b, 0, none⟩) 1 c') (hR : Rw k f w (some ⟨b, 0, none⟩) [y])
    (hlen : n + 1 ≤ 1099511627776) (hbase : B ≤ w.heap.size) (s' : Nat) (hsum : n + 1 = s')
    (h : ∀ g2 c2 w', Ow e k f w' B (some ⟨g2, 0, none⟩) c2 (l ++ [y]) → w.grownBy w' (Value.slice A n c).ownBlock → Below B w w' → ((Value.slice A n c).ownBlock = some g2 ∨ g2 = w.heap.size) → wpList P ops Q rest (a.put o.dst (.slice (some ⟨g2, 0, none⟩) s' c2)) w') : wpList P ops Q (o :: rest) a w := by
  obtain ⟨i, z, hi1, hz, hsz, hby, hzc⟩ := R.hi
  subst hn; subst hsum
  have hb8 : (l.length + 1) * by_ ≤ 140737488355328 := Nat.le_trans (Nat.mul_le_mul hlen R.few) (by decide)
  refine wpList_append_own_at w hgd s x t ho B e i z k by_ R.ht hi1 hz hsz hby hzc R.k0 _ l.length (fl f l) hs hown ⟨b, 0, none⟩ 1 c' (fl f [y]) hx (fl_length R.fs [y]) ?_ ?_ (by unfold maxLen; omega) hb8 hbase ?_
  · intro q u hu
    obtain ⟨i', j, hi', hj, rfl, hv⟩ := fl_all R.fs R.k0 [y] q u hu
    rcases hR with h0 | ⟨b2, o', e1, _, hc⟩
    · cases h0
    · injection e1 with e1
      rw [e1, add_plain, ← Nat.add_assoc, hc i' hi' j hj, hv]
  · intro u hu
    obtain ⟨y2, _, hy⟩ := fl_mem hu
    exact R.one y2 u hy
  · intro v' w' hown' hg _ hat
    have hbel : Below B w w' := (Below.refl B w).grown hg hbase (fun k hk => (World.ownsRow.lt hown k hk).1)
    have hlen' : (l ++ [y]).length = l.length + 1 := List.length_append
    rw [← fl_app] at hown'
    rw [← hlen'] at hown'
    obtain ⟨g, cap, rfl, _, _⟩ := World.ownsRow.form hown' (by rw [hlen']; omega)
    have := h g cap w' hown' hg hbel (by
      rcases hat with e1 | e1
      · left; rw [← e1]; rfl
      · right; simpa [Value.ownBlock] using e1)
    rwa [← hlen'] at this
theorem gb_set (w : World) (p : Addr) (v : Value) : w.grownBy (w.setCell p v) (some p.block) := ⟨rfl, rfl, rfl, by simp [World.setCell], fun k hk hn => Below.heap_setCell _ _ _ _ (fun e => hn (by rw [e]))⟩
theorem gb_after {a b : World} {row : Option Nat} (h : a.grownBy b row) {p : Addr} (hp : a.heap.size ≤ p.block) (v : Value) : a.grownBy (b.setCell p v) row :=
  ⟨h.os, h.tape, h.output, Nat.le_trans h.size (by simp [World.setCell]), fun k hk hn => (Below.heap_setCell _ _ _ _ (fun e => by omega)).trans (h.block k hk hn)⟩
theorem gb_from {a b c : World} {row : Option Nat} (h : Below a.heap.size a b) (k : b.grownBy c row) : a.grownBy c row :=
  ⟨k.os.trans h.os, k.tape.trans h.tape, k.output.trans h.output, Nat.le_trans h.size k.size, fun i hi hne => (k.block i (Nat.lt_of_lt_of_le hi h.size) hne).trans (h.block i hi)⟩
theorem Ow.apart {g : Nat} (h : Ow e k f w B (some ⟨g, 0, none⟩) c l) {p : Addr} (hp : g ≠ p.block) (v : Value) : Ow e k f (w.setCell p v) B (some ⟨g, 0, none⟩) c l :=
  World.ownsRow.kept h (gb_set w p v) (.inr (by simp [Value.ownBlock]; exact hp))
end

end Go.Proofs.Ytikkiifcnjiegaa

/- Beside a queue: rows of the law's own, of numbers and of texts. -/
namespace Go.Proofs.Ytikkiifcnjiegaa
set_option linter.unusedVariables false
set_option maxRecDepth 100000
set_option linter.unusedSimpArgs false
open Go.RowKit

abbrev qiv (x : Int) : Array Value := #[.int .i64 x]
abbrev qsv (x : ByteArray) : Array Value := #[.string x]
theorem roI : Ro Try.prog 43 3 1 8 qiv := ⟨Try.underlying43, (by
  obtain ⟨i, h1, h2, h3, h4⟩ := info_parts (show (Try.prog.info? 3).map (fun i => (i.zero, i.size, i.bytes)) = some (some (.int .i64 0), 1, 8) by kernel_rfl)
  exact ⟨i, _, h1, h2, h3, h4, rfl⟩), by omega, fun _ => rfl, (fun x u hu => by simp at hu; subst hu; rfl), by omega⟩
theorem roS : Ro Try.prog 47 9 1 16 qsv := ⟨Try.underlying47, (by
  obtain ⟨i, h1, h2, h3, h4⟩ := info_parts (show (Try.prog.info? 9).map (fun i => (i.zero, i.size, i.bytes)) = some (some (.string ByteArray.empty), 1, 16) by kernel_rfl)
  exact ⟨i, _, h1, h2, h3, h4, rfl⟩), by omega, fun _ => rfl, (fun x u hu => by simp at hu; subst hu; rfl), by omega⟩
/-- The slice at A owns the row l: since the law began, and away from the queue's blocks. -/
structure Lr {β : Type} (e : TypeId) (f : β → Array Value) (W u : World) (G : List Nat) (A : Option Addr) (c : Nat) (l : List β) : Prop where
  o : Ow e 1 f u W.heap.size A c l
  n : ∀ g, (Value.slice A l.length c).ownBlock = some g → g ∉ G
section
variable {β : Type} {e : TypeId} {f : β → Array Value} {W u u' : World} {G G' : List Nat} {A : Option Addr} {c : Nat} {l : List β} {qb : Nat} {q : List Qn}
theorem Ow.keep1 {k B : Nat} (h : Ow e k f u B A c l) (hk : ∀ g cs, (Value.slice A l.length c).ownBlock = some g → Bk u g e cs → Bk u' g e cs) : Ow e k f u' B A c l := by
  refine ⟨h.1, ?_⟩
  rcases h.2 with hn | ⟨g, cap, cur, hv, hg, hh, r⟩
  · exact .inl hn
  · exact .inr ⟨g, cap, cur, hv, hg, hk g cur (by rw [hv]; rfl) hh, r⟩
theorem Lr.nil (W u : World) (G : List Nat) : Lr e f W u G none 0 [] := ⟨Ow.nil _ _, fun g h => by cases h⟩
theorem Lr.lt (h : Lr e f W u G A c l) {g : Nat} (hg : (Value.slice A l.length c).ownBlock = some g) : W.heap.size ≤ g ∧ g < u.heap.size := by
  obtain ⟨h1, h2, _⟩ := Ow.block h.o l.length g hg
  exact ⟨h1, h2⟩
theorem Lr.step (h : Lr e f W u G A c l) (s : Sp u u' G G') : Lr e f W u' G' A c l :=
  ⟨h.o.keep1 fun g cs hg hh => hh.ke s.k (h.n g hg), fun g hg hx => by
    rcases s.g g hx with e | e
    · exact h.n g hg e
    · have := (h.lt hg).2; omega⟩
theorem Lr.on (h : Lr e f W u G A c l) (hb : Below u.heap.size u u') : Lr e f W u' G A c l := h.step (Sp.of (Ke.of hb).nil)
theorem Lr.of {B : Nat} (h : Ow e 1 f u B A c l) (hB : W.heap.size ≤ B) (hG : ∀ y ∈ G, y < B) : Lr e f W u G A c l :=
  ⟨⟨h.1, by
    rcases h.2 with hn | ⟨g, cap, cur, hv, hg, r⟩
    · exact .inl hn
    · exact .inr ⟨g, cap, cur, hv, Nat.le_trans hB hg, r⟩⟩, fun g hg hx => by
    have h1 := (Ow.block h l.length g hg).1
    have := hG g hx
    omega⟩
/-- One is appended. -/
theorem Lr.app {y : β} (h : Lr e f W u G A c l) (hq : Wq W u G qb q) {t : TypeId} {cs : Array Value} {g c2 : Nat} {w' : World}
    (h1 : Ow e 1 f w' W.heap.size (some ⟨g, 0, none⟩) c2 (l ++ [y])) (h2 : (u.alloc (.cells cs t)).grownBy w' (Value.slice A l.length c).ownBlock) (h3 : (Value.slice A l.length c).ownBlock = some g ∨ g = (u.alloc (.cells cs t)).heap.size) :
    Lr e f W w' G (some ⟨g, 0, none⟩) c2 (l ++ [y]) ∧ Wq W w' G qb q ∧ (∀ {γ : Type} {e2 : TypeId} {f2 : γ → Array Value} {A2 : Option Addr} {c3 : Nat} {l2 : List γ}, e2 ≠ e → Lr e2 f2 W u G A2 c3 l2 → Lr e2 f2 W w' G A2 c3 l2) ∧ ∀ {k : Nat} {t2 : TypeId} {cs2 : Array Value}, t2 ≠ e → Bk u k t2 cs2 → Bk w' k t2 cs2 := by
  have hk0 : Ke [] u (u.alloc (.cells cs t)) := (Ke.refl _ _).alloc _
  have hW := hq.l.size
  refine ⟨⟨h1, fun g2 hg2 => ?_⟩, ?_, ?_, ?_⟩
  · simp [Value.ownBlock] at hg2
    subst hg2
    rcases h3 with e | e
    · exact h.n g e
    · rw [World.size_alloc] at e
      exact fun hx => by have := hq.hi g hx; omega
  · cases ho : (Value.slice A l.length c).ownBlock with
    | none =>
      rw [ho] at h2
      exact hq.on (hk0.trans (Ke.grown0 h2)).b0
    | some g0 =>
      rw [ho] at h2
      have k : Ke [g0] u w' := (hk0.nil).trans (Ke.grown h2)
      exact hq.ke k (fun y hy hx => h.n g0 ho (by rw [← List.mem_singleton.1 hx]; exact hy)) (hq.l.trans (k.below hW (fun x hx => by rw [List.mem_singleton.1 hx]; exact (h.lt ho).1)))
  · intro γ e2 f2 A2 c3 l2 hne hr
    cases ho : (Value.slice A l.length c).ownBlock with
    | none =>
      rw [ho] at h2
      exact hr.on (hk0.trans (Ke.grown0 h2)).b0
    | some g0 =>
      rw [ho] at h2
      have k : Ke [g0] u w' := (hk0.nil).trans (Ke.grown h2)
      obtain ⟨_, _, cs0, hb0⟩ := Ow.block h.o l.length g0 ho
      exact ⟨hr.o.keep1 fun g5 cs5 hg5 hh => hh.ke k (by simpa using bk_ne hh hb0 hne), hr.n⟩
  · intro k5 t2 cs2 hne hk5
    cases ho : (Value.slice A l.length c).ownBlock with
    | none =>
      rw [ho] at h2
      exact hk5.ke (hk0.trans (Ke.grown0 h2)) (by simp)
    | some g0 =>
      rw [ho] at h2
      obtain ⟨_, _, cs0, hb0⟩ := Ow.block h.o l.length g0 ho
      exact hk5.ke ((hk0.nil).trans (Ke.grown h2)) (by simpa using bk_ne hk5 hb0 hne)
theorem Lr.rw_ (hf : ∀ x, (f x).size = 1) (h : Lr e f W u G A c l) : Rw 1 f u A l := Ow.rw_ hf h.o
theorem Rw.front {w : World} (h : Rw 1 f w A l) (n : Nat) : Rw 1 f w A (l.take n) := by
  rcases h with h | ⟨b, o, e, hb, hc⟩
  · left; rw [h]; simp
  · exact .inr ⟨b, o, e, hb, fun i hi j hj => by
      have hi' : i < l.length := by rw [List.length_take] at hi; omega
      rw [hc i hi' j hj, List.getElem_take]⟩
theorem Rw.tail {w : World} (h : Rw 1 f w A l) (lo : Nat) (hc : l.length ≤ c) : Rw 1 f w (tailA A c lo) (l.drop lo) := by
  by_cases h0 : l.drop lo = []
  · left; exact h0
  · have hlo : lo < l.length := by
      rcases Nat.lt_or_ge lo l.length with h1 | h1
      · exact h1
      · exact absurd (List.drop_of_length_le h1) h0
    rcases h with h | ⟨b, o, e, hb, hcl⟩
    · rw [h] at hlo; simp at hlo
    · subst e
      rw [tail_at b o c lo (by omega)]
      refine .inr ⟨b, o + lo, rfl, hb, fun i hi j hj => ?_⟩
      have hi' : lo + i < l.length := by rw [List.length_drop] at hi; omega
      have := hcl (lo + i) hi' j hj
      rw [show o + lo + i * 1 + j = o + (lo + i) * 1 + j by omega, this, List.getElem_drop]
end
/-- One of a row. -/
theorem Rw.one {β : Type} {f : β → Array Value} {w : World} {A : Option Addr} {l : List β} (h : Rw 1 f w A l) (i : Nat) (hi : i < l.length) : ∃ b o x, A = some ⟨b, o, none⟩ ∧ l[i]? = some x ∧ ∀ u, Below w.heap.size w u → u.cell? ⟨b, o + i, none⟩ = (f x)[0]? := by
  obtain ⟨b, o, x, h1, h2, h3⟩ := Rw.at_ h i hi
  exact ⟨b, o, x, h1, h2, fun u hb => by have := h3 u hb 0 (by omega); simpa using this⟩
theorem sslice_from (A : Option Addr) (n c lo : Nat) (h : lo ≤ n) (hc : n ≤ c) (u : World) : (Instr.sliceAt 47 (.slice A n c) (some (.int .i64 (lo : Int))) none none).run Try.prog u = .ok (.slice (tailA A c lo) (n - lo) (c - lo)) u := by
  have h1 : (lo : Int) ≤ (n : Int) := by omega
  have h2 : (n : Int) ≤ (c : Int) := by omega
  unfold tailA
  go_simp
theorem sslice_to (A : Option Addr) (n c hi : Nat) (h : hi ≤ n) (hc : n ≤ c) (u : World) : (Instr.sliceAt 47 (.slice A n c) none (some (.int .i64 (hi : Int))) none).run Try.prog u = .ok (.slice A hi c) u := by
  have h1 : (hi : Int) ≤ (n : Int) := by omega
  have h2 : (hi : Int) ≤ (c : Int) := by omega
  go_simp
theorem Ow.made {β : Type} {e : TypeId} {f : β → Array Value} (w : World) : Ow e 1 f (w.alloc (.cells #[] e)) w.heap.size (some ⟨w.heap.size, 0, none⟩) 0 [] := by
  have := World.ownsRow_made (base := w.heap.size) (e := e) (size := 1) w #[] 0 (Nat.le_refl _) (by unfold maxLen; omega) (by simp)
  exact this
end Go.Proofs.Ytikkiifcnjiegaa
