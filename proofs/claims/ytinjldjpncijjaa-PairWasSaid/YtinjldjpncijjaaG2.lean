/- AppOp, Iw, Lib1, Ke, Sp, Hmf, Numb, RdrS, Parse, FoldM, ParMath: texts of this seat, one behind the other. -/
import Derived.Test.YtinjldjpncijjaaG1
import Derived.Laws.CopyOwn
import Derived.Laws.EntriesVeiled
import Derived.Test.YtinjldjpncijjaaRows
import Derived.BigQuiet
import Derived.Deep.QuietTactic
/- append as one operation of a region. Nothing of the program is named here. -/
namespace Go.Proofs.Ytinjldjpncijjaa
set_option linter.unusedVariables false
set_option maxRecDepth 100000
set_option linter.unusedSimpArgs false
open Go.RowKit

/-- append of bytes, as one operation. -/
theorem op_app {P : Program} {o : Oper} {a : Act} {K : Act → World → Prop} {Q : Exit → Act → World → Prop} {w : World} (s x : Operand) (t e : TypeId)
    (ho : o.op = .call { callee := .builtin .append, args := #[s, x], argTypes := #[t, t] }) (ht : P.underlying t = some (.slice e))
    (hi : (P.info? e).map (fun i => (i.zero, i.size, i.bytes)) = some (some (.int .u8 0), 1, 1)) (B : Nat) (l : List UInt8) (A : Option Addr) (n c : Nat) (hs : a.eval s = .slice A n c) (hn : l.length = n) (hown : OB w B e A c l)
    (k : List UInt8) (ad : Addr) (m c' B' : Nat) (hx : a.eval x = .slice (some ad) m c') (hm : k.length = m) (hR : Rb w B' (some ad) k)
    (hlen : l.length + k.length ≤ 140737488355328) (hbase : B ≤ w.heap.size)
    (h : ∀ A2 c2 w', OB w' B e A2 c2 (l ++ k) → w.grownBy w' (Value.slice A n c).ownBlock → Below B w w' → K (a.put o.dst (.slice A2 (l ++ k).length c2)) w') : o.wp P a w K Q := by
  subst hn; subst hm
  obtain ⟨i, hi1, hz, hsz, hby⟩ := info_parts hi
  refine wp_append_own w s x t ho B e i (.int .u8 0) 1 1 ht hi1 hz hsz hby rfl (by decide) _ l.length (l.map u8) hs hown ad k.length c' (k.map u8) hx (by simp) ?_ ?_ (by unfold maxLen; omega) (by omega) hbase ?_
  · intro j u hu
    have hj : j < k.length := by
      rcases Nat.lt_or_ge j k.length with h1 | h1
      · exact h1
      · rw [List.getElem?_eq_none (by simpa using h1)] at hu; cases hu
    rcases hR with h0 | ⟨b, off, e1, _, hc⟩
    · subst h0; simp at hj
    · injection e1 with e1
      subst e1
      rw [add_plain, hc j hj]
      simp [hj] at hu
      exact congrArg some hu
  · intro u hu
    obtain ⟨b, _, rfl⟩ := List.mem_map.1 hu
    rfl
  · intro v' w' hown' hg _
    have hbel : Below B w w' := (Below.refl B w).grown hg hbase (fun k hk => (World.ownsRow.lt hown k hk).1)
    have hlen' : (l ++ k).length = l.length + k.length := List.length_append
    by_cases h0 : l ++ k = []
    · have h00 : l.length + k.length = 0 := by rw [← hlen', h0]; rfl
      rw [h00] at hown'
      rcases hown'.2 with ⟨rfl, _⟩ | ⟨g, cap, cur, rfl, _, r⟩
      · have := h none 0 w' (by rw [h0]; exact OB.nil w' B e) hg hbel
        rwa [h0] at this
      · have := h (some ⟨g, 0, none⟩) cap w' (by
          rw [h0]
          have e2 : List.map u8 l ++ List.map u8 k = [] := by rw [← List.map_append, h0]; rfl
          rw [e2] at hown'
          exact hown') hg hbel
        rwa [h0] at this
    · have hp : 0 < l.length + k.length := by rw [← hlen']; exact List.length_pos_iff.2 h0
      obtain ⟨g, cap, rfl, _, _⟩ := World.ownsRow.form hown' hp
      have := h (some ⟨g, 0, none⟩) cap w' (by unfold OB; rw [hlen', List.map_append]; exact hown') hg hbel
      rwa [hlen'] at this

/-- What the call owns stays owned where nothing that was there has turned. -/
theorem OB.stay {w w' : World} {B B' : Nat} {e : TypeId} {A : Option Addr} {c : Nat} {l : List UInt8} (h : OB w B e A c l) (hb : Below B' w w') (hB : w.heap.size ≤ B') : OB w' B e A c l := by
  refine ⟨h.1, ?_⟩
  rcases h.2 with hn | ⟨g, cap, cur, hv, hg, hh, r⟩
  · exact .inl hn
  · refine .inr ⟨g, cap, cur, hv, hg, ?_, r⟩
    rw [hb.block g (Nat.lt_of_lt_of_le (lt_of_block hh) hB)]
    exact hh

/-- What lies in another block than the row that has grown reads as it did. -/
theorem Rb.grown {w w' : World} {B : Nat} {g : Nat} {l : List UInt8} {row : Option Nat} (h : Rb w B (some ⟨g, 0, none⟩) l) (hg : w.grownBy w' row) (hlt : g < w.heap.size) (hne : row ≠ some g) : Rb w' B (some ⟨g, 0, none⟩) l := by
  rcases h with h | ⟨b, o, e, hb, hc⟩
  · exact .inl h
  · injection e with e
    injection e with e1 e2
    subst e1; subst e2
    exact .inr ⟨g, 0, rfl, hb, fun i hi => hg.cell (hc i hi) (fun h => hne h.symm)⟩

theorem OB.row {w : World} {B : Nat} {e : TypeId} {A : Option Addr} {n c : Nat} {l : List UInt8} (h : OB w B e A c l) (g : Nat) (hn : (Value.slice A n c).ownBlock = some g) : B ≤ g ∧ g < w.heap.size := by
  rcases h.2 with ⟨hv, _⟩ | ⟨g', cap, cur, hv, hb, hh, _⟩
  · injection hv with h1
    subst h1
    cases hn
  · injection hv with h1
    subst h1
    simp [Value.ownBlock] at hn
    subst hn
    exact ⟨hb, lt_of_block hh⟩

/-- The same, what is appended being nil or not. -/
theorem op_app_any {P : Program} {o : Oper} {a : Act} {K : Act → World → Prop} {Q : Exit → Act → World → Prop} {w : World} (s x : Operand) (t e : TypeId)
    (ho : o.op = .call { callee := .builtin .append, args := #[s, x], argTypes := #[t, t] }) (ht : P.underlying t = some (.slice e))
    (hi : (P.info? e).map (fun i => (i.zero, i.size, i.bytes)) = some (some (.int .u8 0), 1, 1)) (B : Nat) (l : List UInt8) (A : Option Addr) (n c : Nat) (hs : a.eval s = .slice A n c) (hn : l.length = n) (hown : OB w B e A c l)
    (k : List UInt8) (A' : Option Addr) (m c' B' : Nat) (hx : a.eval x = .slice A' m c') (hm : k.length = m) (hnil : A' = none → m = 0 ∧ c' = 0) (hR : Rb w B' A' k)
    (hlen : l.length + k.length ≤ 140737488355328) (hbase : B ≤ w.heap.size)
    (h : ∀ A2 c2 w', OB w' B e A2 c2 (l ++ k) → w.grownBy w' (Value.slice A n c).ownBlock → Below B w w' → K (a.put o.dst (.slice A2 (l ++ k).length c2)) w') : o.wp P a w K Q := by
  cases A' with
  | some ad => exact op_app s x t e ho ht hi B l A n c hs hn hown k ad m c' B' hx hm hR hlen hbase h
  | none =>
    obtain ⟨rfl, rfl⟩ := hnil rfl
    have hk : k = [] := List.eq_nil_of_length_eq_zero hm
    subst hk
    subst hn
    obtain ⟨i, hi1, hz, hsz, hby⟩ := info_parts hi
    have hrun := run_append_owned_none (P := P) (w := w) B t o.type e i 1 ht hi1 _ l.length (l.map u8) hown
    unfold Oper.wp
    simp [execOp, ho, resolve, invoke, builtin, hs, hx, hrun, Result.andThen]
    have := h A c w (by simpa using hown) (World.grownBy.refl w _) (Below.refl B w)
    exact (by simpa using this : K (a.put o.dst (Value.slice A l.length c)) w)
/-- append of a text's bytes, as one operation. -/
theorem op_app_str {P : Program} {o : Oper} {a : Act} {K : Act → World → Prop} {Q : Exit → Act → World → Prop} {w : World} (sl x : Operand) (t u e : TypeId)
    (ho : o.op = .call { callee := .builtin .append, args := #[sl, x], argTypes := #[t, u] }) (ht : P.underlying t = some (.slice e)) (hu : P.underlying u = some .string)
    (hi : (P.info? e).map (fun i => (i.zero, i.size, i.bytes)) = some (some (.int .u8 0), 1, 1)) (B : Nat) (l : List UInt8) (A : Option Addr) (n c : Nat) (hs : a.eval sl = .slice A n c) (hn : l.length = n) (hown : OB w B e A c l)
    (s : ByteArray) (hx : a.eval x = .string s) (hlen : l.length + s.size ≤ 140737488355328) (hbase : B ≤ w.heap.size)
    (h : ∀ A2 c2 w', OB w' B e A2 c2 (l ++ s.data.toList) → w.grownBy w' (Value.slice A n c).ownBlock → Below B w w' → K (a.put o.dst (.slice A2 (l ++ s.data.toList).length c2)) w') : o.wp P a w K Q := by
  subst hn
  obtain ⟨i, hi1, hz, hsz, hby⟩ := info_parts hi
  obtain ⟨v', w', hr, hown', hg, _⟩ := Go.Lib.run_append_own_string (P := P) w B t u o.type e i ht hu hi1 hz hsz hby _ l.length (l.map u8) hown s (by unfold maxLen; omega) (by omega) hbase
  have hK : K (a.put o.dst v') w' := by
    have hbel : Below B w w' := (Below.refl B w).grown hg hbase (fun k hk => (World.ownsRow.lt hown k hk).1)
    have hsl : s.data.toList.length = s.size := rfl
    have hlen' : (l ++ s.data.toList).length = l.length + s.size := by rw [List.length_append, hsl]
    have hst : Go.Lib.strCells s = s.data.toList.map u8 := rfl
    rw [hst, ← List.map_append] at hown'
    rw [← hlen'] at hown'
    by_cases h0 : l ++ s.data.toList = []
    · rw [h0] at hown'
      rcases hown'.2 with ⟨rfl, _⟩ | ⟨g, cap, cur, rfl, _, r⟩
      · have := h none 0 w' (by rw [h0]; exact OB.nil w' B e) hg hbel
        rwa [h0] at this
      · have := h (some ⟨g, 0, none⟩) cap w' (by rw [h0]; exact hown') hg hbel
        rwa [h0] at this
    · have hp : 0 < (l ++ s.data.toList).length := List.length_pos_iff.2 h0
      obtain ⟨g, cap, rfl, _, _⟩ := World.ownsRow.form hown' hp
      exact h (some ⟨g, 0, none⟩) cap w' hown' hg hbel
  unfold Oper.wp execOp
  simp only [ho, resolve, invoke, builtin, Sem.run_bind, Sem.run_pure, Result.andThen_ok, List.map_toArray, List.map_cons, List.map_nil, hs, hx, hr]
  exact hK
/-- An operation whose guard is met. -/
theorem wpList_wanted {P : Program} {ops : Array Oper} {Q : Exit → Act → World → Prop} {a : Act} {w : World} {rest : List Oper} {o : Oper} (hw : Region.wanted o (yielded ops a.tmps) = true)
    (h : ∀ K : Act → World → Prop, (∀ a w, wpList P ops Q rest a w → K a w) → o.wp P a w K Q) : wpList P ops Q (o :: rest) a w :=
  wpList_step fun K hK => by simp only [hw, if_true]; exact h K hK
theorem OB.drew {w : World} {B : Nat} {e : TypeId} {A : Option Addr} {c : Nat} {l : List UInt8} (h : OB w B e A c l) : OB w.drew B e A c l := World.ownsRow.drew h
theorem Rb.two {w : World} {t : TypeId} {a b : UInt8} : Rb (w.alloc (.cells #[.int .u8 (a.toNat : Int), .int .u8 (b.toNat : Int)] t)) (w.heap.size + 1) (some ⟨w.heap.size, 0, none⟩) [a, b] := Rb.bk (t := t) (l := [a, b]) (Bk.new w t _)
end Go.Proofs.Ytinjldjpncijjaa

/- A number that lies in its range. -/
namespace Go.Proofs.Ytinjldjpncijjaa
set_option linter.unusedVariables false
set_option maxRecDepth 100000
set_option linter.unusedSimpArgs false
open Go.RowKit
theorem iwrap (x : Int) (n : Nat) (h : x = (n : Int)) (hn : n ≤ 9223372036854775807) : IntKind.i64.wrap x = (n : Int) ∧ wrap64 x = (n : Int) := by
  subst h
  constructor
  · rw [IntKind.wrap_i64]; omega
  · unfold wrap64; omega
end Go.Proofs.Ytinjldjpncijjaa

/- Small words for walks over slices of bytes. -/
namespace Go.Proofs.Ytinjldjpncijjaa
set_option linter.unusedVariables false
set_option maxRecDepth 100000
set_option linter.unusedSimpArgs false
open Go.RowKit

theorem Rb.on {u u' : World} {A : Option Addr} {l : List UInt8} (h : Rb u u.heap.size A l) (hb : Below u.heap.size u u') : Rb u' u'.heap.size A l := (h.below hb (Nat.le_refl _)).more hb.size
/-- string(b), where an operation's guard is met, in a region that draws nothing. -/
theorem wpList_conv {P : Program} {ops : Array Oper} {Q : Exit → Act → World → Prop} {a : Act} {w : World} {rest : List Oper} {o : Oper} (hw : Region.wanted o (yielded ops a.tmps) = true) (src e dst : TypeId) (x : Operand) (ho : o.op = .convert src dst x)
    (A : Option Addr) (n c : Nat) (l : List UInt8) (hx : a.eval x = .slice A n c) (hn : l.length = n) {B : Nat} (hR : Rb w B A l) (hs : P.underlying src = some (.slice e)) (he : P.underlying e = some (.int .u8)) (hd : P.underlying dst = some .string)
    (h : wpList P ops Q rest (a.put o.dst (.string (bs l))) w) : wpList P ops Q (o :: rest) a w :=
  wpList_wanted hw fun K hK => by
    have h1 := str_of (P := P) hR src e dst hs he hd n c hn
    unfold Oper.wp execOp
    simp only [ho, hx, Sem.run_bind, h1, Result.andThen_ok, Sem.run_pure]
    exact hK _ _ h
/-- b[lo:hi] in a region that draws nothing. -/
theorem wpList_two {P : Program} {ops : Array Oper} {rest : List Oper} {o : Oper} {a : Act} {Q : Exit → Act → World → Prop} {w : World} (hgd : o.guard = none) (t : TypeId) (x lo hi : Operand) (ho : o.op = .slice t x (some lo) (some hi) none) (vx vl vh v : Value) (hx : a.eval x = vx) (hl : a.eval lo = vl) (hh : a.eval hi = vh)
    (hr : (Instr.sliceAt t vx (some vl) (some vh) none).run P w = .ok v w) (h : wpList P ops Q rest (a.put o.dst v) w) : wpList P ops Q (o :: rest) a w :=
  wpList_plain hgd fun _ hK => by
    unfold Oper.wp execOp
    simp only [ho, Option.map_some, Option.map_none, hx, hl, hh, Sem.run_bind, hr, Result.andThen_ok, Sem.run_pure]
    exact hK _ _ h
/-- append of bytes, the new length being the sum. -/
theorem wp_app_n {P : Program} {ops : Array Oper} {rest : List Oper} {o : Oper} {a : Act} {Q : Exit → Act → World → Prop} {w : World} (hgd : o.guard = none) (s x : Operand) (t e : TypeId)
    (ho : o.op = .call { callee := .builtin .append, args := #[s, x], argTypes := #[t, t] }) (ht : P.underlying t = some (.slice e))
    (hi : (P.info? e).map (fun i => (i.zero, i.size, i.bytes)) = some (some (.int .u8 0), 1, 1)) (B : Nat) (l : List UInt8) (A : Option Addr) (n c : Nat) (hs : a.eval s = .slice A n c) (hn : l.length = n) (hown : OB w B e A c l)
    (k : List UInt8) (A' : Option Addr) (m c' B' : Nat) (hx : a.eval x = .slice A' m c') (hm : k.length = m) (hnil : A' = none → m = 0 ∧ c' = 0) (hR : Rb w B' A' k)
    (hlen : n + m ≤ 140737488355328) (hbase : B ≤ w.heap.size) (s' : Nat) (hsum : n + m = s')
    (h : ∀ A2 c2 w', OB w' B e A2 c2 (l ++ k) → w.grownBy w' (Value.slice A n c).ownBlock → Below B w w' → wpList P ops Q rest (a.put o.dst (.slice A2 s' c2)) w') : wpList P ops Q (o :: rest) a w :=
  wp_app_any hgd s x t e ho ht hi B l A n c hs hn hown k A' m c' B' hx hm hnil hR (by rw [hn, hm]; exact hlen) hbase (fun A2 c2 w' k1 k2 k3 => by rw [List.length_append, hn, hm, hsum]; exact h A2 c2 w' k1 k2 k3)
theorem OB.nil_ {w : World} {B : Nat} {e : TypeId} {A : Option Addr} {c : Nat} {l : List UInt8} (h : OB w B e A c l) (hA : A = none) : l.length = 0 ∧ c = 0 := by
  rcases h.2 with ⟨hv, h0⟩ | ⟨g, cap, cur, hv, _⟩
  · injection hv with _ _ h3
    exact ⟨h0, h3⟩
  · rw [hA] at hv; cases hv
theorem tail_nil {A : Option Addr} {n c k q : Nat} (h : A = none → n = 0 ∧ c = 0) (hq : k + q ≤ n) : tailA A c k = none → q = 0 ∧ c - k = 0 := fun e => by
  obtain ⟨h1, h2⟩ := h (tailA_none A c k e)
  omega
/-- b[:hi] in a region that draws nothing. -/
theorem wpList_to {P : Program} {ops : Array Oper} {rest : List Oper} {o : Oper} {a : Act} {Q : Exit → Act → World → Prop} {w : World} (hgd : o.guard = none) (t : TypeId) (x hi : Operand) (ho : o.op = .slice t x none (some hi) none) (vx vh v : Value) (hx : a.eval x = vx) (hh : a.eval hi = vh)
    (hr : (Instr.sliceAt t vx none (some vh) none).run P w = .ok v w) (h : wpList P ops Q rest (a.put o.dst v) w) : wpList P ops Q (o :: rest) a w :=
  wpList_plain hgd fun _ hK => by
    unfold Oper.wp execOp
    simp only [ho, Option.map_some, Option.map_none, hx, hh, Sem.run_bind, hr, Result.andThen_ok, Sem.run_pure]
    exact hK _ _ h
/-- min of two numbers, as one operation. -/
theorem op_min {P : Program} {o : Oper} {a : Act} {K : Act → World → Prop} {Q : Exit → Act → World → Prop} {w : World} (x y : Operand) (t : TypeId) (ho : o.op = .call { callee := .builtin .min, args := #[x, y], argTypes := #[t, t] }) (u v m : Int) (hx : a.eval x = .int .i64 u) (hy : a.eval y = .int .i64 v) (hm : min u v = m)
    (h : K (a.put o.dst (.int .i64 m)) w) : o.wp P a w K Q := by
  subst hm
  have e : (if v < u then v else u) = min u v := by split <;> omega
  have hr : (Builtin.min_ #[t, t] o.type #[.int .i64 u, .int .i64 v]).run P w = .ok (.int .i64 (min u v)) w := by rw [← e]; simp [Builtin.min_, Builtin.min2]
  unfold Oper.wp execOp
  simp only [ho, resolve, invoke, builtin, Sem.run_bind, Sem.run_pure, Result.andThen_ok, List.map_toArray, List.map_cons, List.map_nil, hx, hy, hr]
  exact h
/-- max of two numbers, as one operation. -/
theorem op_max {P : Program} {o : Oper} {a : Act} {K : Act → World → Prop} {Q : Exit → Act → World → Prop} {w : World} (x y : Operand) (t : TypeId) (ho : o.op = .call { callee := .builtin .max, args := #[x, y], argTypes := #[t, t] }) (u v m : Int) (hx : a.eval x = .int .i64 u) (hy : a.eval y = .int .i64 v) (hm : max u v = m)
    (h : K (a.put o.dst (.int .i64 m)) w) : o.wp P a w K Q := by
  subst hm
  have e : (if v > u then v else u) = max u v := by split <;> omega
  have hr : (Builtin.max_ #[t, t] o.type #[.int .i64 u, .int .i64 v]).run P w = .ok (.int .i64 (max u v)) w := by rw [← e]; simp [Builtin.max_, Builtin.max2]
  unfold Oper.wp execOp
  simp only [ho, resolve, invoke, builtin, Sem.run_bind, Sem.run_pure, Result.andThen_ok, List.map_toArray, List.map_cons, List.map_nil, hx, hy, hr]
  exact h
/-- The same in a region that draws nothing. -/
theorem wpList_min {P : Program} {ops : Array Oper} {rest : List Oper} {o : Oper} {a : Act} {Q : Exit → Act → World → Prop} {w : World} (hgd : o.guard = none) (x y : Operand) (t : TypeId) (ho : o.op = .call { callee := .builtin .min, args := #[x, y], argTypes := #[t, t] }) (u v m : Int) (hx : a.eval x = .int .i64 u) (hy : a.eval y = .int .i64 v) (hm : min u v = m)
    (h : wpList P ops Q rest (a.put o.dst (.int .i64 m)) w) : wpList P ops Q (o :: rest) a w :=
  wpList_plain hgd fun K hK => op_min x y t ho u v m hx hy hm (hK _ _ h)
theorem wpList_max {P : Program} {ops : Array Oper} {rest : List Oper} {o : Oper} {a : Act} {Q : Exit → Act → World → Prop} {w : World} (hgd : o.guard = none) (x y : Operand) (t : TypeId) (ho : o.op = .call { callee := .builtin .max, args := #[x, y], argTypes := #[t, t] }) (u v m : Int) (hx : a.eval x = .int .i64 u) (hy : a.eval y = .int .i64 v) (hm : max u v = m)
    (h : wpList P ops Q rest (a.put o.dst (.int .i64 m)) w) : wpList P ops Q (o :: rest) a w :=
  wpList_plain hgd fun K hK => op_max x y t ho u v m hx hy hm (hK _ _ h)
end Go.Proofs.Ytinjldjpncijjaa

/- What turns in memory: all that was there is as it was, but in some blocks. Slices of bytes that lie away from some blocks. copy as one operation. Nothing of the program is named here. -/
namespace Go.Proofs.Ytinjldjpncijjaa
set_option linter.unusedVariables false
set_option maxRecDepth 100000
set_option linter.unusedSimpArgs false
open Go.RowKit

/-- But in the blocks of L, all that was there is as it was. -/
structure Ke (L : List Nat) (w w' : World) : Prop where
  os : w'.os = w.os
  tape : w'.tape = w.tape
  output : w'.output = w.output
  size : w.heap.size ≤ w'.heap.size
  block : ∀ k, k < w.heap.size → k ∉ L → w'.heap[k]? = w.heap[k]?

theorem Ke.refl (L : List Nat) (w : World) : Ke L w w := ⟨rfl, rfl, rfl, Nat.le_refl _, fun _ _ _ => rfl⟩
theorem Ke.trans {L : List Nat} {a b c : World} (h : Ke L a b) (k : Ke L b c) : Ke L a c :=
  ⟨k.os.trans h.os, k.tape.trans h.tape, k.output.trans h.output, Nat.le_trans h.size k.size, fun i hi hL => (k.block i (Nat.lt_of_lt_of_le hi h.size) hL).trans (h.block i hi hL)⟩
theorem Ke.more {L L' : List Nat} {a b : World} (h : Ke L a b) (hL : ∀ x ∈ L, x ∈ L') : Ke L' a b := ⟨h.os, h.tape, h.output, h.size, fun k hk hn => h.block k hk (fun hx => hn (hL k hx))⟩
theorem Ke.nil {L : List Nat} {a b : World} (h : Ke [] a b) : Ke L a b := h.more (fun x hx => by cases hx)
theorem Ke.drew {L : List Nat} {a b : World} (h : Ke L a b) : Ke L a b.drew := ⟨h.os, h.tape, h.output, h.size, h.block⟩
theorem Ke.alloc {L : List Nat} {a b : World} (h : Ke L a b) (o : Obj) : Ke L a (b.alloc o) := h.trans ⟨rfl, rfl, rfl, by simp, fun k hk _ => Below.heap_alloc _ _ _ hk⟩
theorem Ke.set {L : List Nat} {a b : World} (h : Ke L a b) {p : Addr} (hp : p.block ∈ L) (u : Value) : Ke L a (b.setCell p u) :=
  h.trans ⟨rfl, rfl, rfl, by simp [World.setCell], fun k hk hn => Below.heap_setCell _ _ _ _ (fun e => hn (e ▸ hp))⟩
theorem Ke.row {L : List Nat} {a b : World} (h : Ke L a b) {g : Nat} (hg : g ∈ L) (cs : Array Value) : Ke L a (b.setRow g cs) :=
  h.trans ⟨rfl, rfl, rfl, by simp [World.setRow], fun k hk hn => setRow_other _ _ _ _ (fun e => hn (e ▸ hg))⟩
/-- A block that is behind all that was there may turn as it likes. -/
theorem Ke.new {L : List Nat} {g : Nat} {a b : World} (h : Ke (g :: L) a b) (hg : a.heap.size ≤ g) : Ke L a b :=
  ⟨h.os, h.tape, h.output, h.size, fun k hk hn => h.block k hk (fun hx => by
    rcases List.mem_cons.1 hx with rfl | hx
    · omega
    · exact hn hx)⟩
theorem Ke.of {w w' : World} (h : Below w.heap.size w w') : Ke [] w w' := ⟨h.os, h.tape, h.output, h.size, fun k hk _ => h.block k hk⟩
theorem Ke.below {L : List Nat} {w w' : World} {B : Nat} (h : Ke L w w') (hB : B ≤ w.heap.size) (hL : ∀ x ∈ L, B ≤ x) : Below B w w' :=
  ⟨h.os, h.tape, h.output, h.size, fun k hk => h.block k (by omega) (fun hx => by have := hL k hx; omega)⟩

theorem Bk.ke {L : List Nat} {w w' : World} {g : Nat} {t : TypeId} {cs : Array Value} (h : Bk w g t cs) (k : Ke L w w') (hg : g ∉ L) : Bk w' g t cs := (k.block g h.lt hg).trans h
theorem Bk.row {w : World} {g : Nat} {t : TypeId} {cs : Array Value} (h : Bk w g t cs) (ds : Array Value) : Bk (w.setRow g ds) g t ds := setRow_heap w g cs ds t _ h
theorem Bk.rowFar {w : World} {g g' : Nat} {t : TypeId} {cs : Array Value} (h : Bk w g t cs) (hn : g ≠ g') (ds : Array Value) : Bk (w.setRow g' ds) g t cs := (setRow_other w g' g ds hn).trans h

/-- The slice at A reads as the bytes l, and lies in none of the blocks of L. -/
def Rf (w : World) (L : List Nat) (A : Option Addr) (l : List UInt8) : Prop :=
  l = [] ∨ ∃ b o, A = some ⟨b, o, none⟩ ∧ b ∉ L ∧ b < w.heap.size ∧ ∀ i, (h : i < l.length) → w.cell? ⟨b, o + i, none⟩ = some (.int .u8 ((l[i]).toNat : Int))

theorem Rf.rb {w : World} {L : List Nat} {A : Option Addr} {l : List UInt8} (h : Rf w L A l) : Rb w w.heap.size A l := by
  rcases h with h | ⟨b, o, e, _, hb, hc⟩
  · exact .inl h
  · exact .inr ⟨b, o, e, hb, hc⟩
theorem Rb.rf {w : World} {B : Nat} {L : List Nat} {A : Option Addr} {l : List UInt8} (h : Rb w B A l) (hL : ∀ x ∈ L, B ≤ x) : Rf w L A l := by
  rcases h with h | ⟨b, o, e, hb, hc⟩
  · exact .inl h
  · by_cases h0 : l = []
    · exact .inl h0
    · have h1 := hc 0 (List.length_pos_iff.2 h0)
      exact .inr ⟨b, o, e, fun hx => by have := hL b hx; omega, World.block_lt_of_cell? w _ h1, hc⟩
theorem Rf.ke {w w' : World} {L L' : List Nat} {A : Option Addr} {l : List UInt8} (h : Rf w L A l) (k : Ke L' w w') (hL : ∀ x ∈ L', x ∈ L) : Rf w' L A l := by
  rcases h with h | ⟨b, o, e, hn, hb, hc⟩
  · exact .inl h
  · exact .inr ⟨b, o, e, hn, Nat.lt_of_lt_of_le hb k.size, fun i hi => (World.cell?_of_block (w := w) (a := ⟨b, o + i, none⟩) (k.block b hb (fun hx => hn (hL b hx)))).trans (hc i hi)⟩
theorem Rf.less {w : World} {L L' : List Nat} {A : Option Addr} {l : List UInt8} (h : Rf w L A l) (hL : ∀ x ∈ L', x ∈ L) : Rf w L' A l := by
  rcases h with h | ⟨b, o, e, hn, hb, hc⟩
  · exact .inl h
  · exact .inr ⟨b, o, e, fun hx => hn (hL b hx), hb, hc⟩
theorem Rf.bk {w : World} {L : List Nat} {g : Nat} {t : TypeId} {l : List UInt8} (h : Bk w g t (bcells l)) (hg : g ∉ L) : Rf w L (some ⟨g, 0, none⟩) l :=
  .inr ⟨g, 0, rfl, hg, h.lt, fun i hi => by rw [h.cell, Nat.zero_add, bcells_at l i hi]⟩
theorem Rf.front {w : World} {L : List Nat} {A : Option Addr} {l : List UInt8} (h : Rf w L A l) (n : Nat) : Rf w L A (l.take n) := by
  rcases h with h | ⟨b, o, e, hn, hb, hc⟩
  · left; rw [h]; simp
  · exact .inr ⟨b, o, e, hn, hb, fun i hi => by
      have hi' : i < l.length := by rw [List.length_take] at hi; omega
      rw [hc i hi', List.getElem_take]⟩
theorem Rf.tail {w : World} {L : List Nat} {A : Option Addr} {l : List UInt8} {c : Nat} (h : Rf w L A l) (lo : Nat) (hc : l.length ≤ c) : Rf w L (tailA A c lo) (l.drop lo) := by
  by_cases h0 : l.drop lo = []
  · left; exact h0
  · have hlo : lo < l.length := by
      rcases Nat.lt_or_ge lo l.length with h1 | h1
      · exact h1
      · exact absurd (List.drop_of_length_le h1) h0
    rcases h with h | ⟨b, o, e, hn, hb, hcl⟩
    · rw [h] at hlo; simp at hlo
    · subst e
      have e2 : tailA (some ⟨b, o, none⟩) c lo = some ⟨b, o + lo, none⟩ := by
        unfold tailA
        rw [if_neg (by omega)]
        simp only [Option.map_some, Nat.mul_one, Addr.add]
        split <;> simp_all
      rw [e2]
      refine .inr ⟨b, o + lo, rfl, hn, hb, fun i hi => ?_⟩
      have hi' : lo + i < l.length := by rw [List.length_drop] at hi; omega
      have := hcl (lo + i) hi'
      rw [← Nat.add_assoc] at this
      rw [this, List.getElem_drop]

theorem tail_at (g o c lo : Nat) (h : c ≠ lo) : tailA (some ⟨g, o, none⟩) c lo = some ⟨g, o + lo, none⟩ := by
  unfold tailA
  rw [if_neg h]
  simp only [Option.map_some, Nat.mul_one, add_plain]
theorem bcells_splice (L cs : List UInt8) (o : Nat) : ((bcells L).toList.take o ++ ((bcells cs).toList ++ (bcells L).toList.drop (o + cs.length))).toArray = bcells (splice L o cs) := by
  unfold bcells splice
  simp

/-- copy into a row that is known whole, as one operation. -/
theorem op_copy {P : Program} {o : Oper} {a : Act} {K : Act → World → Prop} {Q : Exit → Act → World → Prop} {w : World} (d s : Operand) (dT sT elem : TypeId)
    (ho : o.op = .call { callee := .builtin .copy, args := #[d, s], argTypes := #[dT, sT] }) (hu : P.underlying dT = some (.slice elem)) (hsz : (P.info? elem).map (·.size) = some 1)
    (dp sp : Option Addr) (dLen dCap sLen sCap : Nat) (hd : a.eval d = .slice dp dLen dCap) (hs : a.eval s = .slice sp sLen sCap)
    (g off : Nat) (cur : List UInt8) (t : TypeId) (hg : Bk w g t (bcells cur)) (cs : List UInt8) (hn : cs.length = min sLen dLen) (hpos : 0 < cs.length → dp = some ⟨g, off, none⟩) {B : Nat} (hR : Rb w B sp cs)
    (hfit : off + cs.length ≤ cur.length) (h : K (a.put o.dst (.int .i64 (cs.length : Int))) (w.setRow g (bcells (splice cur off cs)))) : o.wp P a w K Q := by
  have hn' : cs.length = Nat.min sLen dLen := hn
  by_cases h0 : cs = []
  · subst h0
    have hrun := run_copy_none (P := P) w dT sT o.type elem dp sp dLen dCap sLen sCap hu hsz (by rw [← hn']; rfl)
    have e1 : splice cur off [] = cur := by simp [splice]
    rw [e1, setRow_self w g _ t _ hg] at h
    unfold Oper.wp
    simp [execOp, ho, resolve, invoke, builtin, hd, hs, hrun, Result.andThen]
    exact h
  · obtain rfl := hpos (List.length_pos_iff.2 h0)
    rcases hR with hR | ⟨b, o', rfl, _, hc⟩
    · exact absurd hR h0
    · have hrun := run_copy_row (P := P) w dT sT o.type elem g off dLen dCap ⟨b, o', none⟩ sLen sCap (bcells cur) t (bcells cs).toList hu hsz hg (by simpa [bcells] using hn') (fun j v hj => by
          have hlt : j < cs.length := by
            have := (List.getElem?_eq_some_iff.1 hj).1
            simpa [bcells] using this
          rw [add_plain, hc j hlt]
          simp [bcells, hlt] at hj
          exact congrArg some hj) (by simpa [bcells] using hfit) (fun v hv => by
          simp [bcells] at hv
          obtain ⟨x, _, rfl⟩ := hv
          rfl)
      have e2 : ((bcells cur).toList.take off ++ (bcells cs).toList ++ (bcells cur).toList.drop (off + (bcells cs).toList.length)).toArray = bcells (splice cur off cs) := by
        rw [← bcells_splice]
        simp [bcells]
      have e3 : goInt (bcells cs).toList.length = .int .i64 (cs.length : Int) := by simp [bcells, goInt]
      rw [e2, e3] at hrun
      unfold Oper.wp
      simp [execOp, ho, resolve, invoke, builtin, hd, hs, hrun, Result.andThen]
      exact h
end Go.Proofs.Ytinjldjpncijjaa

/- Footprints: lists of blocks that may only grow by new ones. Nothing of the program is named here. -/
namespace Go.Proofs.Ytinjldjpncijjaa
set_option linter.unusedVariables false
set_option maxRecDepth 100000
set_option linter.unusedSimpArgs false
open Go.RowKit

/-- From u to u' only the blocks G have turned; G' are these, and new ones. -/
structure Sp (u u' : World) (G G' : List Nat) : Prop where
  k : Ke G u u'
  g : ∀ y ∈ G', y ∈ G ∨ u.heap.size ≤ y
theorem Sp.refl (u : World) (G : List Nat) : Sp u u G G := ⟨Ke.refl _ _, fun _ h => .inl h⟩
theorem Sp.of {u u' : World} {G : List Nat} (h : Ke G u u') : Sp u u' G G := ⟨h, fun _ h => .inl h⟩
theorem Sp.trans {u v w : World} {G G' G'' : List Nat} (h : Sp u v G G') (k : Sp v w G' G'') : Sp u w G G'' :=
  ⟨⟨k.k.os.trans h.k.os, k.k.tape.trans h.k.tape, k.k.output.trans h.k.output, Nat.le_trans h.k.size k.k.size, fun i hi hG => (k.k.block i (Nat.lt_of_lt_of_le hi h.k.size) (fun hx => by
      rcases h.g i hx with e | e
      · exact hG e
      · omega)).trans (h.k.block i hi hG)⟩,
    fun y hy => by
      rcases k.g y hy with e | e
      · exact h.g y e
      · exact .inr (Nat.le_trans h.k.size e)⟩
theorem Ke.sp {u u' : World} {G : List Nat} (k : Ke [] u u') : Sp u u' G G := Sp.of k.nil
/-- At q lie those cells, away from the blocks of G. -/
structure Bz (u : World) (G : List Nat) (q : Nat) (t : TypeId) (cs : Array Value) : Prop where
  b : Bk u q t cs
  n : q ∉ G
theorem Bz.step {u u' : World} {G G' : List Nat} {q : Nat} {t : TypeId} {cs : Array Value} (h : Bz u G q t cs) (s : Sp u u' G G') : Bz u' G' q t cs :=
  ⟨h.b.ke s.k h.n, fun hm => by
    rcases s.g q hm with e | e
    · exact h.n e
    · have := h.b.lt; omega⟩
theorem Bz.alloc {u : World} {G : List Nat} {q : Nat} {t : TypeId} {cs : Array Value} (h : Bz u G q t cs) (o : Obj) : Bz (u.alloc o) G q t cs := ⟨h.b.alloc o, h.n⟩
theorem Bz.on {u u' : World} {G : List Nat} {q : Nat} {t : TypeId} {cs : Array Value} (h : Bz u G q t cs) (hb : Below u.heap.size u u') : Bz u' G q t cs := ⟨h.b.below hb h.b.lt, h.n⟩
theorem Bz.new {u : World} {G : List Nat} (hG : ∀ y ∈ G, y < u.heap.size) (t : TypeId) (cs : Array Value) : Bz (u.alloc (.cells cs t)) G u.heap.size t cs := ⟨Bk.new u t cs, fun hm => by have := hG _ hm; omega⟩
theorem below_dn {w : World} (n : Nat) : Below w.heap.size w (w.drewN n) := ⟨rfl, rfl, rfl, Nat.le_refl _, fun _ _ => rfl⟩
theorem Ke.grown {w w' : World} {a : Nat} (h : w.grownBy w' (some a)) : Ke [a] w w' := ⟨h.os, h.tape, h.output, h.size, fun k hk hn => h.block k hk (fun e => hn (by injection e with e; simp [e]))⟩
theorem Ke.grown0 {w w' : World} (h : w.grownBy w' none) : Ke [] w w' := ⟨h.os, h.tape, h.output, h.size, fun k hk _ => h.block k hk (by simp)⟩
end Go.Proofs.Ytinjldjpncijjaa

/- A function value is made. Nothing of the program is named here. -/
namespace Go.Proofs.Ytinjldjpncijjaa
set_option linter.unusedVariables false
set_option maxRecDepth 100000
set_option linter.unusedSimpArgs false
open Go.RowKit

theorem hmf {P : Program} : ∀ (fn : Fn) (first cap : Array Value) (w : World), (Instr.makeFunc fn first cap).run P w = .ok (.func fn first cap) w := fun _ _ _ _ => rfl

end Go.Proofs.Ytinjldjpncijjaa

/- num.number over whatever tells its digits. -/
namespace Go.Proofs.Ytinjldjpncijjaa
set_option linter.unusedVariables false
set_option maxRecDepth 100000
set_option linter.unusedSimpArgs false
open Go.RowKit

/-- What number reckons of digits that are told: of each the digit, whether it is the last one, whether it is one at all. -/
def numS (b : Nat) (st : Nat → Nat × Bool × Bool) : Nat → Nat → Nat → Option (Nat × Nat)
  | 0, _, _ => none
  | f + 1, k, n =>
    let d := st k
    if d.2.2 = false then none
    else if 1099511627776 < n * b + d.1 ∨ (n * b + d.1 = 0 ∧ d.2.1 = false) then none
    else if d.2.1 = true then some (n * b + d.1, k + 1)
    else numS b st f (k + 1) (n * b + d.1)

/-- How number returns it. -/
def numE : Option (Nat × Nat) → Ending
  | some (n, k) => .returned (.tuple #[.int .i64 n, .int .i64 k, .bool true])
  | none => .returned (.tuple #[.int .i64 0, .int .i64 0, .bool false])

/-- A call of a function with a body goes into it. -/
theorem goes_in {P : Program} {f : FuncId} {fn : Func} {c : Code} (h1 : P.funcs[f]? = some fn) (h2 : (fn.name == "runtime.NumGoroutine") = false) (h3 : fn.body = some c) (args : Array Value) (w : World) :
    (callFunc f args).run P w = .ok (.enter f args) w := by
  have hn : fn.name ≠ "runtime.NumGoroutine" := by simpa using h2
  simp [callFunc, h1, hn, h3, mark]

end Go.Proofs.Ytinjldjpncijjaa

/- num.reader over a text: what it makes, and what each call of that tells. -/
namespace Go.Proofs.Ytinjldjpncijjaa
set_option linter.unusedVariables false
set_option maxRecDepth 100000
set_option linter.unusedSimpArgs false
open Go.RowKit

/-- The same over a text. -/
structure RdS (w : World) (g : Nat) (s : ByteArray) (k : Nat) : Prop where
  pos : Bk w (g + 1) 3 #[.int .i64 k]
  from_ : Bk w g 9 #[.string s]
  size : s.size ≤ 140737488355328
  le : k ≤ s.size

theorem RdS.start {w : World} {s : ByteArray} (hl : s.size ≤ 140737488355328) :
    RdS ((w.alloc (.cells #[.string s] 9)).alloc (.cells #[.int .i64 0] 3)) w.heap.size s 0 := by
  have b1 : Bk (w.alloc (.cells #[.string s] 9)) w.heap.size 9 _ := Bk.new w _ _
  have b2 : Bk ((w.alloc (.cells #[.string s] 9)).alloc (.cells #[.int .i64 0] 3)) (w.heap.size + 1) 3 #[.int .i64 0] := by
    have := Bk.new (w.alloc (.cells #[.string s] 9)) 3 #[.int .i64 0]
    simpa using this
  exact ⟨b2, b1.alloc _, hl, by omega⟩

theorem RdS.step {w : World} {g k : Nat} {s : ByteArray} (h : RdS w g s k) (hk : k < s.size) : RdS (w.setCell ⟨g + 1, 0, none⟩ (.int .i64 ((k + 1 : Nat) : Int))) g s (k + 1) :=
  ⟨h.pos.set 0 _, h.from_.far (by show g ≠ g + 1; omega) _, h.size, by omega⟩

theorem RdS.below {w w' : World} {g k B : Nat} {s : ByteArray} (h : RdS w g s k) (hb : Below B w w') (hB : g + 2 ≤ B) : RdS w' g s k :=
  ⟨h.pos.below hb (by omega), h.from_.below hb (by omega), h.size, h.le⟩

end Go.Proofs.Ytinjldjpncijjaa

/- num.Parse: its contract. -/
namespace Go.Proofs.Ytinjldjpncijjaa
set_option linter.unusedVariables false
set_option maxRecDepth 100000
set_option linter.unusedSimpArgs false
open Go.RowKit

def stP (s : ByteArray) (k : Nat) : Nat × Bool × Bool := if h : k < s.size then ((s[k]).toNat - 48, decide (k + 1 = s.size), decide (48 ≤ (s[k]).toNat ∧ (s[k]).toNat ≤ 57)) else (0, true, false)
/-- The number of which a text is the decimals. -/
def parseS (s : ByteArray) : Option (Nat × Nat) := numS 10 (stP s) (s.size + 1) 0 0

theorem parse1_fin {w' : World} {g k v S : Nat} {P Q : Prop} (b1 : Bool) (hb : b1 = decide (48 ≤ v ∧ v ≤ 57)) (h : P) (h' : Q) :
    ∃ di lb, Ending.returned (.tuple #[.int .i64 ((v : Int) - 48), .bool ((S : Int) - (k : Int) - 1 == 0), .bool b1]) = Ending.returned (.tuple #[.int .i64 di, .bool lb, .bool (decide (48 ≤ v ∧ v ≤ 57))]) ∧
      (decide (48 ≤ v ∧ v ≤ 57) = true → di = ((v - 48 : Nat) : Int) ∧ lb = decide (k + 1 = S) ∧ P) ∧ Q :=
  ⟨_, _, by rw [hb], (fun h0 => ⟨(by have : 48 ≤ v ∧ v ≤ 57 := (by simpa using h0); omega), (by rw [Bool.eq_iff_iff]; simp; omega), h⟩), h'⟩

/-- How Parse returns it. -/
def parE : Option (Nat × Nat) → Ending
  | some (n, _) => .returned (.tuple #[.int .i64 n, .bool true])
  | none => .returned (.tuple #[.int .i64 0, .bool false])

end Go.Proofs.Ytinjldjpncijjaa

/- Numbers of their digits, the highest first: plain mathematics. -/
namespace Go.Proofs.Ytinjldjpncijjaa
set_option linter.unusedVariables false
set_option maxRecDepth 100000
set_option linter.unusedSimpArgs false

theorem numS_no {b : Nat} {st : Nat → Nat × Bool × Bool} {f k n : Nat} (h : (st k).2.2 = false) : numS b st (f + 1) k n = none := by
  simp [numS, h]
theorem numS_last {b : Nat} {st : Nat → Nat × Bool × Bool} {f k n d : Nat} (h : st k = (d, true, true)) (hm : n * b + d ≤ 1099511627776) : numS b st (f + 1) k n = some (n * b + d, k + 1) := by
  simp [numS, h]; omega
theorem numS_more {b : Nat} {st : Nat → Nat × Bool × Bool} {f k n d : Nat} (h : st k = (d, false, true)) (hm : n * b + d ≤ 1099511627776) (h0 : n * b + d ≠ 0) : numS b st (f + 1) k n = numS b st f (k + 1) (n * b + d) := by
  simp only [numS, h]
  rw [if_neg (by simp), if_neg (by rintro (h1 | ⟨h1, _⟩); omega; exact h0 h1), if_neg (by simp)]

theorem numS_big' {b : Nat} {st : Nat → Nat × Bool × Bool} {f k n d : Nat} {last : Bool} (h : st k = (d, last, true)) (hm : 1099511627776 < n * b + d) : numS b st (f + 1) k n = none := by
  simp only [numS, h]
  rw [if_neg (by simp), if_pos (.inl hm)]
theorem numS_zero' {b : Nat} {st : Nat → Nat × Bool × Bool} {f k n d : Nat} (h : st k = (d, false, true)) (hm : n * b + d = 0) : numS b st (f + 1) k n = none := by
  simp [numS, h, hm]

/-- What digits come to. -/
def fold (b n : Nat) (ds : List Nat) : Nat := ds.foldl (fun n d => n * b + d) n
theorem fold_le (b : Nat) (hb : 1 ≤ b) : ∀ (ds : List Nat) (n : Nat), n ≤ fold b n ds := by
  intro ds
  induction ds with
  | nil => intro n; exact Nat.le_refl _
  | cons d ds ih =>
    intro n
    have h1 := ih (n * b + d)
    have h2 : n ≤ n * b := Nat.le_mul_of_pos_right n hb
    exact Nat.le_trans (by omega) h1
theorem fold_snoc (b n : Nat) (ds : List Nat) (d : Nat) : fold b n (ds ++ [d]) = fold b n ds * b + d := by simp [fold]
theorem fold_dg (b : Nat) (hb : 2 ≤ b) : ∀ n, fold b 0 (dg b n) = n := by
  intro n
  induction n using Nat.strongRecOn with
  | ind n ih =>
    by_cases h : n < b
    · rw [dg_small h]; simp [fold]
    · rw [dg_big hb h, fold_snoc, ih (n / b) (Nat.div_lt_self (by omega) (by omega))]
      have := Nat.div_add_mod n b
      rw [Nat.mul_comm]; omega

theorem numS_front {b : Nat} (hb : 1 ≤ b) {st : Nat → Nat × Bool × Bool} : ∀ (ds : List Nat) (f k n : Nat), (∀ i, (h : i < ds.length) → st (k + i) = (ds[i], false, true)) → fold b n ds ≤ 1099511627776 →
    (∀ d r, ds = d :: r → n * b + d ≠ 0) → numS b st (f + ds.length) k n = numS b st f (k + ds.length) (fold b n ds) := by
  intro ds
  induction ds with
  | nil => intro f k n _ _ _; rfl
  | cons d ds ih =>
    intro f k n hst hle h0
    have hs0 := hst 0 (by simp)
    have hle2 : n * b + d ≤ 1099511627776 := Nat.le_trans (fold_le b hb ds _) hle
    have hne := h0 d ds rfl
    have e : f + (d :: ds).length = (f + ds.length) + 1 := by simp; omega
    rw [e, numS_more (by simpa using hs0) hle2 hne, ih f (k + 1) (n * b + d)]
    · have e2 : k + 1 + ds.length = k + (d :: ds).length := by simp; omega
      rw [e2]; rfl
    · intro i hi
      have := hst (i + 1) (by simp; omega)
      have e3 : k + (i + 1) = k + 1 + i := by omega
      rw [e3] at this
      simpa using this
    · exact hle
    · intro d' r _
      have : 1 * b ≤ (n * b + d) * b := Nat.mul_le_mul_right b (by omega)
      omega

theorem fold_pos {b n d : Nat} {r : List Nat} (e : dg b n = d :: r) (hb : 2 ≤ b) (hn : 0 < n) : d ≠ 0 := by
  obtain ⟨d', r', e', h⟩ := dg_head' b hb n hn
  rw [e] at e'
  injection e' with e1 _
  rw [e1]; exact h

def hiD (b n : Nat) : List Nat := if n < b then [] else dg b (n / b)
theorem hiD_lt (b : Nat) (hb : 2 ≤ b) (n d : Nat) (h : d ∈ hiD b n) : d < b := by
  unfold hiD at h
  by_cases hn : n < b
  · simp [hn] at h
  · rw [if_neg hn] at h
    exact dg_lt b hb _ d h
theorem hiD_fold (b : Nat) (hb : 2 ≤ b) (n : Nat) : fold b 0 (hiD b n) = n / b := by
  unfold hiD
  by_cases hn : n < b
  · simp [hn, fold, Nat.div_eq_of_lt hn]
  · rw [if_neg hn, fold_dg b hb]
theorem hiD_head (b : Nat) (hb : 2 ≤ b) (n d : Nat) (r : List Nat) (e : hiD b n = d :: r) : d ≠ 0 := by
  unfold hiD at e
  by_cases hn : n < b
  · simp [hn] at e
  · rw [if_neg hn] at e
    exact fold_pos e hb (Nat.div_pos (by omega) (by omega))

theorem dg_step (b n d : Nat) (hb : 2 ≤ b) (hd : d < b) (hn : 1 ≤ n) : dg b (n * b + d) = dg b n ++ [d] := by
  have h1 : 1 * b ≤ n * b := Nat.mul_le_mul_right b hn
  have h2 : (n * b + d) / b = n := by rw [Nat.mul_comm, Nat.mul_add_div (by omega), Nat.div_eq_of_lt hd]; omega
  have h3 : (n * b + d) % b = d := by rw [Nat.mul_comm, Nat.mul_add_mod]; exact Nat.mod_eq_of_lt hd
  rw [dg_big hb (by omega), h2, h3]

theorem ofNat_toNat_eq (c : UInt8) (d : Nat) (h : c.toNat = d) : c = UInt8.ofNat d := by rw [← h]; simp

end Go.Proofs.Ytinjldjpncijjaa

/- There and back, of decimals: plain mathematics. -/
namespace Go.Proofs.Ytinjldjpncijjaa
set_option linter.unusedVariables false
set_option maxRecDepth 100000
set_option linter.unusedSimpArgs false

/-! ### Decimals -/

theorem stP_at (s : ByteArray) (k : Nat) (h : k < s.size) : stP s k = ((s[k]).toNat - 48, decide (k + 1 = s.size), decide (48 ≤ (s[k]).toNat ∧ (s[k]).toNat ≤ 57)) := by simp [stP, h]
theorem stP_end (s : ByteArray) (k : Nat) (h : ¬ k < s.size) : stP s k = (0, true, false) := by simp [stP, h]

theorem bs_at (l : List UInt8) (k : Nat) (h : k < (bs l).size) (h' : k < l.length) : (bs l)[k] = l[k] := by
  show (bs l).data[k] = _
  simp [bs]

theorem decB_eq (n : Nat) : decB n = (hiD 10 n).map (fun d => UInt8.ofNat (d + 48)) ++ [UInt8.ofNat (n % 10 + 48)] := by
  unfold decB hiD
  by_cases h : n < 10
  · rw [dg_small h, if_pos h, Nat.mod_eq_of_lt h]; rfl
  · rw [dg_big (by omega) h, if_neg h, List.map_append]; rfl

theorem parse_back (n : Nat) (hn : n ≤ 1099511627776) : ∃ k, parseS (bs (decB n)) = some (n, k) := by
  have hm := Nat.mod_lt n (by omega : 10 > 0)
  have hlen : (decB n).length = (hiD 10 n).length + 1 := by rw [decB_eq]; simp
  have hsz : (bs (decB n)).size = (hiD 10 n).length + 1 := by rw [bs_size, hlen]
  have hf : fold 10 0 (hiD 10 n) = n / 10 := hiD_fold 10 (by omega) n
  unfold parseS
  have e : (bs (decB n)).size + 1 = 2 + (hiD 10 n).length := by rw [hsz]; omega
  refine ⟨(hiD 10 n).length + 1, ?_⟩
  rw [e, numS_front (by omega) (hiD 10 n) _ 0 0 ?_ (by rw [hf]; omega) (fun d r e => by have := hiD_head 10 (by omega) n d r e; omega), hf, Nat.zero_add]
  · have hk : (hiD 10 n).length < (bs (decB n)).size := by omega
    have hst : stP (bs (decB n)) (hiD 10 n).length = (n % 10, true, true) := by
      rw [stP_at _ _ hk]
      have e2 : (bs (decB n))[(hiD 10 n).length] = UInt8.ofNat (n % 10 + 48) := by
        refine (bs_at _ _ hk (by omega)).trans ?_
        have := decB_eq n
        simp only [this]
        rw [List.getElem_append_right (by simp)]
        simp
      rw [e2, u8_ofNat _ (by omega), hsz]
      have e3 : n % 10 + 48 - 48 = n % 10 := by omega
      rw [e3, decide_eq_true rfl, decide_eq_true ⟨by omega, by omega⟩]
    have hdm := Nat.div_add_mod n 10
    rw [numS_last hst (by omega)]
    congr 2
    omega
  · intro i hi
    have hd := hiD_lt 10 (by omega) n _ (List.getElem_mem hi)
    have hi2 : i < (bs (decB n)).size := by omega
    rw [Nat.zero_add, stP_at _ i hi2]
    have e2 : (bs (decB n))[i] = UInt8.ofNat ((hiD 10 n)[i] + 48) := by
      refine (bs_at _ _ hi2 (by omega)).trans ?_
      have := decB_eq n
      simp only [this]
      rw [List.getElem_append_left (by simpa using hi)]
      simp
    rw [e2, u8_ofNat _ (by omega), hsz]
    have e3 : (hiD 10 n)[i] + 48 - 48 = (hiD 10 n)[i] := by omega
    rw [e3, decide_eq_false (by omega), decide_eq_true ⟨by omega, by omega⟩]

theorem par_inv (s : ByteArray) : ∀ (f k n r m : Nat), ((k = 0 ∧ n = 0) ∨ (1 ≤ n ∧ k ≤ s.size ∧ s.data.toList.take k = decB n)) → numS 10 (stP s) f k n = some (r, m) →
    r ≤ 1099511627776 ∧ s.data.toList = decB r := by
  intro f
  induction f with
  | zero => intro k n r m _ h; cases h
  | succ f ih =>
    intro k n r m hI h
    by_cases hk : k < s.size
    · have hst := stP_at s k hk
      have hk2 : k < s.data.toList.length := hk
      have ht : s.data.toList.take (k + 1) = s.data.toList.take k ++ [s.data.toList[k]] := List.take_succ_eq_append_getElem hk2
      have hsk : s.data.toList[k] = s[k] := by
        show s.data.toList[k] = s.data[k]
        simp
      rw [hsk] at ht
      generalize hv : (s[k]).toNat = v at hst
      by_cases hdig : 48 ≤ v ∧ v ≤ 57
      · rw [decide_eq_true hdig] at hst
        have hc : s[k] = UInt8.ofNat ((v - 48) + 48) := by rw [ofNat_toNat_eq _ _ hv]; congr 1; omega
        rw [hc] at ht
        by_cases hbig : 1099511627776 < n * 10 + (v - 48) ∨ (n * 10 + (v - 48) = 0 ∧ decide (k + 1 = s.size) = false)
        · simp only [numS, hst] at h
          rw [if_neg (by simp), if_pos hbig] at h
          cases h
        · have hle : n * 10 + (v - 48) ≤ 1099511627776 := by
            rcases Nat.lt_or_ge 1099511627776 (n * 10 + (v - 48)) with h1 | h1
            · exact absurd (.inl h1) hbig
            · exact h1
          have hnew : s.data.toList.take (k + 1) = decB (n * 10 + (v - 48)) := by
            rw [ht]
            rcases hI with ⟨rfl, rfl⟩ | ⟨hn1, _, htk⟩
            · rw [decB, dg_small (by omega)]; simp
            · rw [htk, decB, decB, dg_step 10 n (v - 48) (by omega) (by omega) hn1, List.map_append]; rfl
          by_cases hlast : k + 1 = s.size
          · rw [decide_eq_true hlast] at hst
            rw [numS_last hst hle] at h
            injection h with h
            injection h with h1 h2
            subst h1
            refine ⟨hle, ?_⟩
            rw [← hnew, List.take_of_length_le]
            show s.size ≤ k + 1
            omega
          · rw [decide_eq_false hlast] at hst
            have hne : n * 10 + (v - 48) ≠ 0 := fun h0 => hbig (.inr ⟨h0, decide_eq_false hlast⟩)
            rw [numS_more hst hle hne] at h
            exact ih (k + 1) _ r m (.inr ⟨by omega, by omega, hnew⟩) h
      · rw [decide_eq_false hdig] at hst
        rw [numS_no (by rw [hst])] at h
        cases h
    · rw [numS_no (by rw [stP_end _ _ hk])] at h
      cases h

theorem parse_is (s : ByteArray) (z k : Nat) (h : parseS s = some (z, k)) : z ≤ 1099511627776 ∧ s = bs (decB z) := by
  obtain ⟨h1, h2⟩ := par_inv s _ 0 0 z k (.inl ⟨rfl, rfl⟩) h
  refine ⟨h1, ?_⟩
  rw [← h2]
  cases s; simp [bs]

end Go.Proofs.Ytinjldjpncijjaa
