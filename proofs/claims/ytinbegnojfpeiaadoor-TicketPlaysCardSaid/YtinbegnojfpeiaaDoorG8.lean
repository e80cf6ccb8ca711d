/- RowsAt, ConvR, Lib1, Ke, Sp, DelK, ConvB: texts of this seat, one behind the other. -/
import Derived.Test.YtinbegnojfpeiaaDoorG7
import Derived.Maps.AppendAt
import Derived.Test.YtinbegnojfpeiaaDoorG2
import Derived.Test.YtinbegnojfpeiaaDoorG1
import Derived.Test.YtinbegnojfpeiaaDoorG5
import Derived.Test.YtinbegnojfpeiaaDoorG4
import Derived.Laws.CopyOwn
import Derived.Deep.RegionLaw
import Derived.Lib.SliceRun
import Derived.Lib.LazyBuf
import Derived.Test.YtinbegnojfpeiaaDoorRows
import Derived.Laws.IdiomStrings
import Derived.Laws.AppendOwn
/- append of one row, with the place of the new slice. Nothing of the program is named here. -/
namespace Go.Proofs.YtinbegnojfpeiaaDoor
set_option linter.unusedVariables false
set_option maxRecDepth 100000
set_option linter.unusedSimpArgs false
open Go.RowKit

section
variable {β : Type} {P : Program} {t e : TypeId} {k by_ : Nat} {f : β → Array Value} {w w' : World} {B : Nat} {A : Option Addr} {c : Nat} {l : List β}
/-- append of one row: where the new slice lies. -/
theorem wp_rows_at (R : Ro P t e k by_ f) {ops : Array Oper} {rest : List Oper} {o : Oper} {a : Act} {Q : Exit → Act → World → Prop} (hgd : o.guard = none) (s x : Operand)
    (ho : o.op = .call { callee := .builtin .append, args := #[s, x], argTypes := #[t, t] }) (n : Nat) (hs : a.eval s = .slice A n c) (hn : l.length = n) (hown : Ow e k f w B A c l)
    (y : β) (b c' : Nat) (hx : a.eval x = .slice (some ⟨b, 0, none⟩) 1 c') (hR : Rw k f w (some ⟨b, 0, none⟩) [y])
    (hlen : n + 1 ≤ 1099511627776) (hbase : B ≤ w.heap.size) (s' : Nat) (hsum : n + 1 = s')
    (h : ∀ g2 c2 w', Ow e k f w' B (some ⟨g2, 0, none⟩) c2 (l ++ [y]) → w.grownBy w' (Value.slice A n c).ownBlock → Below B w w' → ((Value.slice A n c).ownBlock = some g2 ∨ g2 = w.heap.size) → wpList P ops Q rest (a.put o.dst (.slice (some ⟨g2, 0, none⟩) s' c2)) w') : wpList P ops Q (o :: rest) a w := by
  obtain ⟨i, z, hi1, hz, hsz, hby, hzc⟩ := R.hi
  subst hn; subst hsum
  have hb8 : (l.length + 1) * by_ ≤ 140737488355328 := Nat.le_trans (Nat.mul_le_mul hlen R.few) (by decide)
  refine wpList_append_own_at w hgd s x t ho B e i z k by_ R.ht hi1 hz hsz hby hzc R.k0 _ l.length (fl f l) hs hown ⟨b, 0, none⟩ 1 c' (fl f [y]) hx (fl_length R.fs [y]) ?_ ?_ (by unfold maxLen; omega) hb8 hbase ?_
  · intro q u hu
    obtain ⟨i', j, hi', hj, rfl, hv⟩ := fl_all R.fs R.k0 [y] q u hu
    rcases hR with h0 | ⟨b2, o', e1, _, hc⟩
    · cases h0
    · injection e1 with e1
      rw [e1, add_plain, ← Nat.add_assoc, hc i' hi' j hj, hv]
  · intro u hu
    obtain ⟨y2, _, hy⟩ := fl_mem hu
    exact R.one y2 u hy
  · intro v' w' hown' hg _ hat
    have hbel : Below B w w' := (Below.refl B w).grown hg hbase (fun k hk => (World.ownsRow.lt hown k hk).1)
    have hlen' : (l ++ [y]).length = l.length + 1 := List.length_append
    rw [← fl_app] at hown'
    rw [← hlen'] at hown'
    obtain ⟨g, cap, rfl, _, _⟩ := World.ownsRow.form hown' (by rw [hlen']; omega)
    have := h g cap w' hown' hg hbel (by
      rcases hat with e1 | e1
      · left; rw [← e1]; rfl
      · right; simpa [Value.ownBlock] using e1)
    rwa [← hlen'] at this
theorem gb_set (w : World) (p : Addr) (v : Value) : w.grownBy (w.setCell p v) (some p.block) := ⟨rfl, rfl, rfl, by simp [World.setCell], fun k hk hn => Below.heap_setCell _ _ _ _ (fun e => hn (by rw [e]))⟩
theorem gb_after {a b : World} {row : Option Nat} (h : a.grownBy b row) {p : Addr} (hp : a.heap.size ≤ p.block) (v : Value) : a.grownBy (b.setCell p v) row :=
  ⟨h.os, h.tape, h.output, Nat.le_trans h.size (by simp [World.setCell]), fun k hk hn => (Below.heap_setCell _ _ _ _ (fun e => by omega)).trans (h.block k hk hn)⟩
theorem gb_from {a b c : World} {row : Option Nat} (h : Below a.heap.size a b) (k : b.grownBy c row) : a.grownBy c row :=
  ⟨k.os.trans h.os, k.tape.trans h.tape, k.output.trans h.output, Nat.le_trans h.size k.size, fun i hi hne => (k.block i (Nat.lt_of_lt_of_le hi h.size) hne).trans (h.block i hi)⟩
theorem Ow.apart {g : Nat} (h : Ow e k f w B (some ⟨g, 0, none⟩) c l) {p : Addr} (hp : g ≠ p.block) (v : Value) : Ow e k f (w.setCell p v) B (some ⟨g, 0, none⟩) c l :=
  World.ownsRow.kept h (gb_set w p v) (.inr (by simp [Value.ownBlock]; exact hp))
end

end Go.Proofs.YtinbegnojfpeiaaDoor

/- string(b) in a region that draws its order. Nothing of the program is named here. -/
namespace Go.Proofs.YtinbegnojfpeiaaDoor
set_option linter.unusedVariables false
set_option maxRecDepth 100000
set_option linter.unusedSimpArgs false
open Go.RowKit

theorem yieldsIf_conv {P : Program} {ops : Array Oper} {S : World → Prop} {oi : Oper} {a : Act} (hw : Region.wanted oi (yielded ops a.tmps) = true) (src e dst : TypeId) (x : Operand) (ho : oi.op = .convert src dst x)
    (A : Option Addr) (n c : Nat) (l : List UInt8) (hx : a.eval x = .slice A n c) (hn : l.length = n) {B : World → Nat} (hR : ∀ w, S w → Rb w (B w) A l) (hs : P.underlying src = some (.slice e)) (he : P.underlying e = some (.int .u8)) (hd : P.underlying dst = some .string) : YieldsIf P ops S oi (.string (bs l)) a :=
  .inl ⟨hw, fun w hw' => by
    unfold execOp
    simp only [ho, hx, Sem.run_bind, str_of (hR w hw') src e dst hs he hd n c hn, Result.andThen_ok, Sem.run_pure, bs]⟩
end Go.Proofs.YtinbegnojfpeiaaDoor

/- Small words for walks over slices of bytes. -/
namespace Go.Proofs.YtinbegnojfpeiaaDoor
set_option linter.unusedVariables false
set_option maxRecDepth 100000
set_option linter.unusedSimpArgs false
open Go.RowKit

theorem Rb.on {u u' : World} {A : Option Addr} {l : List UInt8} (h : Rb u u.heap.size A l) (hb : Below u.heap.size u u') : Rb u' u'.heap.size A l := (h.below hb (Nat.le_refl _)).more hb.size
/-- b[:hi]. -/
theorem slice_to (A : Option Addr) (n c hi : Nat) (h : hi ≤ n) (hc : n ≤ c) (u : World) : (Instr.sliceAt 50 (.slice A n c) none (some (.int .i64 (hi : Int))) none).run Tryd.prog u = .ok (.slice A hi c) u := by
  have h1 : (hi : Int) ≤ (n : Int) := by omega
  have h2 : (hi : Int) ≤ (c : Int) := by omega
  go_simp
/-- string(b), where an operation's guard is met, in a region that draws nothing. -/
theorem wpList_conv {P : Program} {ops : Array Oper} {Q : Exit → Act → World → Prop} {a : Act} {w : World} {rest : List Oper} {o : Oper} (hw : Region.wanted o (yielded ops a.tmps) = true) (src e dst : TypeId) (x : Operand) (ho : o.op = .convert src dst x)
    (A : Option Addr) (n c : Nat) (l : List UInt8) (hx : a.eval x = .slice A n c) (hn : l.length = n) {B : Nat} (hR : Rb w B A l) (hs : P.underlying src = some (.slice e)) (he : P.underlying e = some (.int .u8)) (hd : P.underlying dst = some .string)
    (h : wpList P ops Q rest (a.put o.dst (.string (bs l))) w) : wpList P ops Q (o :: rest) a w :=
  wpList_wanted hw fun K hK => by
    have h1 := str_of (P := P) hR src e dst hs he hd n c hn
    unfold Oper.wp execOp
    simp only [ho, hx, Sem.run_bind, h1, Result.andThen_ok, Sem.run_pure]
    exact hK _ _ h
/-- b[lo:lo + many]. -/
theorem slice_mid (A : Option Addr) (n c k q : Nat) (h : k + q ≤ n) (hc : n ≤ c) (u : World) : (Instr.sliceAt 50 (.slice A n c) (some (.int .i64 (k : Int))) (some (.int .i64 ((k : Int) + (q : Int)))) none).run Tryd.prog u = .ok (.slice (tailA A c k) q (c - k)) u := by
  have e : (k : Int) + (q : Int) = ((k + q : Nat) : Int) := by omega
  have h1 : (k : Int) ≤ ((k + q : Nat) : Int) := by omega
  have h2 : ((k + q : Nat) : Int) ≤ (c : Int) := by omega
  have e2 : k + q - k = q := by omega
  rw [e]
  generalize hj : k + q = j at h1 h2 e2 ⊢
  unfold tailA
  go_simp
/-- b[lo:hi] in a region that draws nothing. -/
theorem wpList_two {P : Program} {ops : Array Oper} {rest : List Oper} {o : Oper} {a : Act} {Q : Exit → Act → World → Prop} {w : World} (hgd : o.guard = none) (t : TypeId) (x lo hi : Operand) (ho : o.op = .slice t x (some lo) (some hi) none) (vx vl vh v : Value) (hx : a.eval x = vx) (hl : a.eval lo = vl) (hh : a.eval hi = vh)
    (hr : (Instr.sliceAt t vx (some vl) (some vh) none).run P w = .ok v w) (h : wpList P ops Q rest (a.put o.dst v) w) : wpList P ops Q (o :: rest) a w :=
  wpList_plain hgd fun _ hK => by
    unfold Oper.wp execOp
    simp only [ho, Option.map_some, Option.map_none, hx, hl, hh, Sem.run_bind, hr, Result.andThen_ok, Sem.run_pure]
    exact hK _ _ h
/-- append of bytes, the new length being the sum. -/
theorem wp_app_n {P : Program} {ops : Array Oper} {rest : List Oper} {o : Oper} {a : Act} {Q : Exit → Act → World → Prop} {w : World} (hgd : o.guard = none) (s x : Operand) (t e : TypeId)
    (ho : o.op = .call { callee := .builtin .append, args := #[s, x], argTypes := #[t, t] }) (ht : P.underlying t = some (.slice e))
    (hi : (P.info? e).map (fun i => (i.zero, i.size, i.bytes)) = some (some (.int .u8 0), 1, 1)) (B : Nat) (l : List UInt8) (A : Option Addr) (n c : Nat) (hs : a.eval s = .slice A n c) (hn : l.length = n) (hown : OB w B e A c l)
    (k : List UInt8) (A' : Option Addr) (m c' B' : Nat) (hx : a.eval x = .slice A' m c') (hm : k.length = m) (hnil : A' = none → m = 0 ∧ c' = 0) (hR : Rb w B' A' k)
    (hlen : n + m ≤ 140737488355328) (hbase : B ≤ w.heap.size) (s' : Nat) (hsum : n + m = s')
    (h : ∀ A2 c2 w', OB w' B e A2 c2 (l ++ k) → w.grownBy w' (Value.slice A n c).ownBlock → Below B w w' → wpList P ops Q rest (a.put o.dst (.slice A2 s' c2)) w') : wpList P ops Q (o :: rest) a w :=
  wp_app_any hgd s x t e ho ht hi B l A n c hs hn hown k A' m c' B' hx hm hnil hR (by rw [hn, hm]; exact hlen) hbase (fun A2 c2 w' k1 k2 k3 => by rw [List.length_append, hn, hm, hsum]; exact h A2 c2 w' k1 k2 k3)
theorem OB.nil_ {w : World} {B : Nat} {e : TypeId} {A : Option Addr} {c : Nat} {l : List UInt8} (h : OB w B e A c l) (hA : A = none) : l.length = 0 ∧ c = 0 := by
  rcases h.2 with ⟨hv, h0⟩ | ⟨g, cap, cur, hv, _⟩
  · injection hv with _ _ h3
    exact ⟨h0, h3⟩
  · rw [hA] at hv; cases hv
theorem tail_nil {A : Option Addr} {n c k q : Nat} (h : A = none → n = 0 ∧ c = 0) (hq : k + q ≤ n) : tailA A c k = none → q = 0 ∧ c - k = 0 := fun e => by
  obtain ⟨h1, h2⟩ := h (tailA_none A c k e)
  omega
/-- b[:hi] in a region that draws nothing. -/
theorem wpList_to {P : Program} {ops : Array Oper} {rest : List Oper} {o : Oper} {a : Act} {Q : Exit → Act → World → Prop} {w : World} (hgd : o.guard = none) (t : TypeId) (x hi : Operand) (ho : o.op = .slice t x none (some hi) none) (vx vh v : Value) (hx : a.eval x = vx) (hh : a.eval hi = vh)
    (hr : (Instr.sliceAt t vx none (some vh) none).run P w = .ok v w) (h : wpList P ops Q rest (a.put o.dst v) w) : wpList P ops Q (o :: rest) a w :=
  wpList_plain hgd fun _ hK => by
    unfold Oper.wp execOp
    simp only [ho, Option.map_some, Option.map_none, hx, hh, Sem.run_bind, hr, Result.andThen_ok, Sem.run_pure]
    exact hK _ _ h
/-- min of two numbers, as one operation. -/
theorem op_min {P : Program} {o : Oper} {a : Act} {K : Act → World → Prop} {Q : Exit → Act → World → Prop} {w : World} (x y : Operand) (t : TypeId) (ho : o.op = .call { callee := .builtin .min, args := #[x, y], argTypes := #[t, t] }) (u v m : Int) (hx : a.eval x = .int .i64 u) (hy : a.eval y = .int .i64 v) (hm : min u v = m)
    (h : K (a.put o.dst (.int .i64 m)) w) : o.wp P a w K Q := by
  subst hm
  have e : (if v < u then v else u) = min u v := by split <;> omega
  have hr : (Builtin.min_ #[t, t] o.type #[.int .i64 u, .int .i64 v]).run P w = .ok (.int .i64 (min u v)) w := by rw [← e]; simp [Builtin.min_, Builtin.min2]
  unfold Oper.wp execOp
  simp only [ho, resolve, invoke, builtin, Sem.run_bind, Sem.run_pure, Result.andThen_ok, List.map_toArray, List.map_cons, List.map_nil, hx, hy, hr]
  exact h
/-- max of two numbers, as one operation. -/
theorem op_max {P : Program} {o : Oper} {a : Act} {K : Act → World → Prop} {Q : Exit → Act → World → Prop} {w : World} (x y : Operand) (t : TypeId) (ho : o.op = .call { callee := .builtin .max, args := #[x, y], argTypes := #[t, t] }) (u v m : Int) (hx : a.eval x = .int .i64 u) (hy : a.eval y = .int .i64 v) (hm : max u v = m)
    (h : K (a.put o.dst (.int .i64 m)) w) : o.wp P a w K Q := by
  subst hm
  have e : (if v > u then v else u) = max u v := by split <;> omega
  have hr : (Builtin.max_ #[t, t] o.type #[.int .i64 u, .int .i64 v]).run P w = .ok (.int .i64 (max u v)) w := by rw [← e]; simp [Builtin.max_, Builtin.max2]
  unfold Oper.wp execOp
  simp only [ho, resolve, invoke, builtin, Sem.run_bind, Sem.run_pure, Result.andThen_ok, List.map_toArray, List.map_cons, List.map_nil, hx, hy, hr]
  exact h
/-- The same in a region that draws nothing. -/
theorem wpList_min {P : Program} {ops : Array Oper} {rest : List Oper} {o : Oper} {a : Act} {Q : Exit → Act → World → Prop} {w : World} (hgd : o.guard = none) (x y : Operand) (t : TypeId) (ho : o.op = .call { callee := .builtin .min, args := #[x, y], argTypes := #[t, t] }) (u v m : Int) (hx : a.eval x = .int .i64 u) (hy : a.eval y = .int .i64 v) (hm : min u v = m)
    (h : wpList P ops Q rest (a.put o.dst (.int .i64 m)) w) : wpList P ops Q (o :: rest) a w :=
  wpList_plain hgd fun K hK => op_min x y t ho u v m hx hy hm (hK _ _ h)
theorem wpList_max {P : Program} {ops : Array Oper} {rest : List Oper} {o : Oper} {a : Act} {Q : Exit → Act → World → Prop} {w : World} (hgd : o.guard = none) (x y : Operand) (t : TypeId) (ho : o.op = .call { callee := .builtin .max, args := #[x, y], argTypes := #[t, t] }) (u v m : Int) (hx : a.eval x = .int .i64 u) (hy : a.eval y = .int .i64 v) (hm : max u v = m)
    (h : wpList P ops Q rest (a.put o.dst (.int .i64 m)) w) : wpList P ops Q (o :: rest) a w :=
  wpList_plain hgd fun K hK => op_max x y t ho u v m hx hy hm (hK _ _ h)
end Go.Proofs.YtinbegnojfpeiaaDoor

/- What turns in memory: all that was there is as it was, but in some blocks. Slices of bytes that lie away from some blocks. copy as one operation. Nothing of the program is named here. -/
namespace Go.Proofs.YtinbegnojfpeiaaDoor
set_option linter.unusedVariables false
set_option maxRecDepth 100000
set_option linter.unusedSimpArgs false
open Go.RowKit

/-- But in the blocks of L, all that was there is as it was. -/
structure Ke (L : List Nat) (w w' : World) : Prop where
  os : w'.os = w.os
  tape : w'.tape = w.tape
  output : w'.output = w.output
  size : w.heap.size ≤ w'.heap.size
  block : ∀ k, k < w.heap.size → k ∉ L → w'.heap[k]? = w.heap[k]?

theorem Ke.refl (L : List Nat) (w : World) : Ke L w w := ⟨rfl, rfl, rfl, Nat.le_refl _, fun _ _ _ => rfl⟩
theorem Ke.trans {L : List Nat} {a b c : World} (h : Ke L a b) (k : Ke L b c) : Ke L a c :=
  ⟨k.os.trans h.os, k.tape.trans h.tape, k.output.trans h.output, Nat.le_trans h.size k.size, fun i hi hL => (k.block i (Nat.lt_of_lt_of_le hi h.size) hL).trans (h.block i hi hL)⟩
theorem Ke.more {L L' : List Nat} {a b : World} (h : Ke L a b) (hL : ∀ x ∈ L, x ∈ L') : Ke L' a b := ⟨h.os, h.tape, h.output, h.size, fun k hk hn => h.block k hk (fun hx => hn (hL k hx))⟩
theorem Ke.nil {L : List Nat} {a b : World} (h : Ke [] a b) : Ke L a b := h.more (fun x hx => by cases hx)
theorem Ke.drew {L : List Nat} {a b : World} (h : Ke L a b) : Ke L a b.drew := ⟨h.os, h.tape, h.output, h.size, h.block⟩
theorem Ke.alloc {L : List Nat} {a b : World} (h : Ke L a b) (o : Obj) : Ke L a (b.alloc o) := h.trans ⟨rfl, rfl, rfl, by simp, fun k hk _ => Below.heap_alloc _ _ _ hk⟩
theorem Ke.set {L : List Nat} {a b : World} (h : Ke L a b) {p : Addr} (hp : p.block ∈ L) (u : Value) : Ke L a (b.setCell p u) :=
  h.trans ⟨rfl, rfl, rfl, by simp [World.setCell], fun k hk hn => Below.heap_setCell _ _ _ _ (fun e => hn (e ▸ hp))⟩
theorem Ke.row {L : List Nat} {a b : World} (h : Ke L a b) {g : Nat} (hg : g ∈ L) (cs : Array Value) : Ke L a (b.setRow g cs) :=
  h.trans ⟨rfl, rfl, rfl, by simp [World.setRow], fun k hk hn => setRow_other _ _ _ _ (fun e => hn (e ▸ hg))⟩
/-- A block that is behind all that was there may turn as it likes. -/
theorem Ke.new {L : List Nat} {g : Nat} {a b : World} (h : Ke (g :: L) a b) (hg : a.heap.size ≤ g) : Ke L a b :=
  ⟨h.os, h.tape, h.output, h.size, fun k hk hn => h.block k hk (fun hx => by
    rcases List.mem_cons.1 hx with rfl | hx
    · omega
    · exact hn hx)⟩
theorem Ke.of {w w' : World} (h : Below w.heap.size w w') : Ke [] w w' := ⟨h.os, h.tape, h.output, h.size, fun k hk _ => h.block k hk⟩
theorem Ke.below {L : List Nat} {w w' : World} {B : Nat} (h : Ke L w w') (hB : B ≤ w.heap.size) (hL : ∀ x ∈ L, B ≤ x) : Below B w w' :=
  ⟨h.os, h.tape, h.output, h.size, fun k hk => h.block k (by omega) (fun hx => by have := hL k hx; omega)⟩

theorem Bk.ke {L : List Nat} {w w' : World} {g : Nat} {t : TypeId} {cs : Array Value} (h : Bk w g t cs) (k : Ke L w w') (hg : g ∉ L) : Bk w' g t cs := (k.block g h.lt hg).trans h
theorem Bk.row {w : World} {g : Nat} {t : TypeId} {cs : Array Value} (h : Bk w g t cs) (ds : Array Value) : Bk (w.setRow g ds) g t ds := setRow_heap w g cs ds t _ h
theorem Bk.rowFar {w : World} {g g' : Nat} {t : TypeId} {cs : Array Value} (h : Bk w g t cs) (hn : g ≠ g') (ds : Array Value) : Bk (w.setRow g' ds) g t cs := (setRow_other w g' g ds hn).trans h

/-- The slice at A reads as the bytes l, and lies in none of the blocks of L. -/
def Rf (w : World) (L : List Nat) (A : Option Addr) (l : List UInt8) : Prop :=
  l = [] ∨ ∃ b o, A = some ⟨b, o, none⟩ ∧ b ∉ L ∧ b < w.heap.size ∧ ∀ i, (h : i < l.length) → w.cell? ⟨b, o + i, none⟩ = some (.int .u8 ((l[i]).toNat : Int))

theorem Rf.rb {w : World} {L : List Nat} {A : Option Addr} {l : List UInt8} (h : Rf w L A l) : Rb w w.heap.size A l := by
  rcases h with h | ⟨b, o, e, _, hb, hc⟩
  · exact .inl h
  · exact .inr ⟨b, o, e, hb, hc⟩
theorem Rb.rf {w : World} {B : Nat} {L : List Nat} {A : Option Addr} {l : List UInt8} (h : Rb w B A l) (hL : ∀ x ∈ L, B ≤ x) : Rf w L A l := by
  rcases h with h | ⟨b, o, e, hb, hc⟩
  · exact .inl h
  · by_cases h0 : l = []
    · exact .inl h0
    · have h1 := hc 0 (List.length_pos_iff.2 h0)
      exact .inr ⟨b, o, e, fun hx => by have := hL b hx; omega, World.block_lt_of_cell? w _ h1, hc⟩
theorem Rf.ke {w w' : World} {L L' : List Nat} {A : Option Addr} {l : List UInt8} (h : Rf w L A l) (k : Ke L' w w') (hL : ∀ x ∈ L', x ∈ L) : Rf w' L A l := by
  rcases h with h | ⟨b, o, e, hn, hb, hc⟩
  · exact .inl h
  · exact .inr ⟨b, o, e, hn, Nat.lt_of_lt_of_le hb k.size, fun i hi => (World.cell?_of_block (w := w) (a := ⟨b, o + i, none⟩) (k.block b hb (fun hx => hn (hL b hx)))).trans (hc i hi)⟩
theorem Rf.less {w : World} {L L' : List Nat} {A : Option Addr} {l : List UInt8} (h : Rf w L A l) (hL : ∀ x ∈ L', x ∈ L) : Rf w L' A l := by
  rcases h with h | ⟨b, o, e, hn, hb, hc⟩
  · exact .inl h
  · exact .inr ⟨b, o, e, fun hx => hn (hL b hx), hb, hc⟩
theorem Rf.bk {w : World} {L : List Nat} {g : Nat} {t : TypeId} {l : List UInt8} (h : Bk w g t (bcells l)) (hg : g ∉ L) : Rf w L (some ⟨g, 0, none⟩) l :=
  .inr ⟨g, 0, rfl, hg, h.lt, fun i hi => by rw [h.cell, Nat.zero_add, bcells_at l i hi]⟩
theorem Rf.front {w : World} {L : List Nat} {A : Option Addr} {l : List UInt8} (h : Rf w L A l) (n : Nat) : Rf w L A (l.take n) := by
  rcases h with h | ⟨b, o, e, hn, hb, hc⟩
  · left; rw [h]; simp
  · exact .inr ⟨b, o, e, hn, hb, fun i hi => by
      have hi' : i < l.length := by rw [List.length_take] at hi; omega
      rw [hc i hi', List.getElem_take]⟩
theorem Rf.tail {w : World} {L : List Nat} {A : Option Addr} {l : List UInt8} {c : Nat} (h : Rf w L A l) (lo : Nat) (hc : l.length ≤ c) : Rf w L (tailA A c lo) (l.drop lo) := by
  by_cases h0 : l.drop lo = []
  · left; exact h0
  · have hlo : lo < l.length := by
      rcases Nat.lt_or_ge lo l.length with h1 | h1
      · exact h1
      · exact absurd (List.drop_of_length_le h1) h0
    rcases h with h | ⟨b, o, e, hn, hb, hcl⟩
    · rw [h] at hlo; simp at hlo
    · subst e
      have e2 : tailA (some ⟨b, o, none⟩) c lo = some ⟨b, o + lo, none⟩ := by
        unfold tailA
        rw [if_neg (by omega)]
        simp only [Option.map_some, Nat.mul_one, Addr.add]
        split <;> simp_all
      rw [e2]
      refine .inr ⟨b, o + lo, rfl, hn, hb, fun i hi => ?_⟩
      have hi' : lo + i < l.length := by rw [List.length_drop] at hi; omega
      have := hcl (lo + i) hi'
      rw [← Nat.add_assoc] at this
      rw [this, List.getElem_drop]

theorem tail_at (g o c lo : Nat) (h : c ≠ lo) : tailA (some ⟨g, o, none⟩) c lo = some ⟨g, o + lo, none⟩ := by
  unfold tailA
  rw [if_neg h]
  simp only [Option.map_some, Nat.mul_one, add_plain]
theorem bcells_splice (L cs : List UInt8) (o : Nat) : ((bcells L).toList.take o ++ ((bcells cs).toList ++ (bcells L).toList.drop (o + cs.length))).toArray = bcells (splice L o cs) := by
  unfold bcells splice
  simp

/-- copy into a row that is known whole, as one operation. -/
theorem op_copy {P : Program} {o : Oper} {a : Act} {K : Act → World → Prop} {Q : Exit → Act → World → Prop} {w : World} (d s : Operand) (dT sT elem : TypeId)
    (ho : o.op = .call { callee := .builtin .copy, args := #[d, s], argTypes := #[dT, sT] }) (hu : P.underlying dT = some (.slice elem)) (hsz : (P.info? elem).map (·.size) = some 1)
    (dp sp : Option Addr) (dLen dCap sLen sCap : Nat) (hd : a.eval d = .slice dp dLen dCap) (hs : a.eval s = .slice sp sLen sCap)
    (g off : Nat) (cur : List UInt8) (t : TypeId) (hg : Bk w g t (bcells cur)) (cs : List UInt8) (hn : cs.length = min sLen dLen) (hpos : 0 < cs.length → dp = some ⟨g, off, none⟩) {B : Nat} (hR : Rb w B sp cs)
    (hfit : off + cs.length ≤ cur.length) (h : K (a.put o.dst (.int .i64 (cs.length : Int))) (w.setRow g (bcells (splice cur off cs)))) : o.wp P a w K Q := by
  have hn' : cs.length = Nat.min sLen dLen := hn
  by_cases h0 : cs = []
  · subst h0
    have hrun := run_copy_none (P := P) w dT sT o.type elem dp sp dLen dCap sLen sCap hu hsz (by rw [← hn']; rfl)
    have e1 : splice cur off [] = cur := by simp [splice]
    rw [e1, setRow_self w g _ t _ hg] at h
    unfold Oper.wp
    simp [execOp, ho, resolve, invoke, builtin, hd, hs, hrun, Result.andThen]
    exact h
  · obtain rfl := hpos (List.length_pos_iff.2 h0)
    rcases hR with hR | ⟨b, o', rfl, _, hc⟩
    · exact absurd hR h0
    · have hrun := run_copy_row (P := P) w dT sT o.type elem g off dLen dCap ⟨b, o', none⟩ sLen sCap (bcells cur) t (bcells cs).toList hu hsz hg (by simpa [bcells] using hn') (fun j v hj => by
          have hlt : j < cs.length := by
            have := (List.getElem?_eq_some_iff.1 hj).1
            simpa [bcells] using this
          rw [add_plain, hc j hlt]
          simp [bcells, hlt] at hj
          exact congrArg some hj) (by simpa [bcells] using hfit) (fun v hv => by
          simp [bcells] at hv
          obtain ⟨x, _, rfl⟩ := hv
          rfl)
      have e2 : ((bcells cur).toList.take off ++ (bcells cs).toList ++ (bcells cur).toList.drop (off + (bcells cs).toList.length)).toArray = bcells (splice cur off cs) := by
        rw [← bcells_splice]
        simp [bcells]
      have e3 : goInt (bcells cs).toList.length = .int .i64 (cs.length : Int) := by simp [bcells, goInt]
      rw [e2, e3] at hrun
      unfold Oper.wp
      simp [execOp, ho, resolve, invoke, builtin, hd, hs, hrun, Result.andThen]
      exact h
end Go.Proofs.YtinbegnojfpeiaaDoor

/- Footprints: lists of blocks that may only grow by new ones. Nothing of the program is named here. -/
namespace Go.Proofs.YtinbegnojfpeiaaDoor
set_option linter.unusedVariables false
set_option maxRecDepth 100000
set_option linter.unusedSimpArgs false
open Go.RowKit

/-- From u to u' only the blocks G have turned; G' are these, and new ones. -/
structure Sp (u u' : World) (G G' : List Nat) : Prop where
  k : Ke G u u'
  g : ∀ y ∈ G', y ∈ G ∨ u.heap.size ≤ y
theorem Sp.refl (u : World) (G : List Nat) : Sp u u G G := ⟨Ke.refl _ _, fun _ h => .inl h⟩
theorem Sp.of {u u' : World} {G : List Nat} (h : Ke G u u') : Sp u u' G G := ⟨h, fun _ h => .inl h⟩
theorem Sp.trans {u v w : World} {G G' G'' : List Nat} (h : Sp u v G G') (k : Sp v w G' G'') : Sp u w G G'' :=
  ⟨⟨k.k.os.trans h.k.os, k.k.tape.trans h.k.tape, k.k.output.trans h.k.output, Nat.le_trans h.k.size k.k.size, fun i hi hG => (k.k.block i (Nat.lt_of_lt_of_le hi h.k.size) (fun hx => by
      rcases h.g i hx with e | e
      · exact hG e
      · omega)).trans (h.k.block i hi hG)⟩,
    fun y hy => by
      rcases k.g y hy with e | e
      · exact h.g y e
      · exact .inr (Nat.le_trans h.k.size e)⟩
theorem Ke.sp {u u' : World} {G : List Nat} (k : Ke [] u u') : Sp u u' G G := Sp.of k.nil
/-- At q lie those cells, away from the blocks of G. -/
structure Bz (u : World) (G : List Nat) (q : Nat) (t : TypeId) (cs : Array Value) : Prop where
  b : Bk u q t cs
  n : q ∉ G
theorem Bz.step {u u' : World} {G G' : List Nat} {q : Nat} {t : TypeId} {cs : Array Value} (h : Bz u G q t cs) (s : Sp u u' G G') : Bz u' G' q t cs :=
  ⟨h.b.ke s.k h.n, fun hm => by
    rcases s.g q hm with e | e
    · exact h.n e
    · have := h.b.lt; omega⟩
theorem Bz.alloc {u : World} {G : List Nat} {q : Nat} {t : TypeId} {cs : Array Value} (h : Bz u G q t cs) (o : Obj) : Bz (u.alloc o) G q t cs := ⟨h.b.alloc o, h.n⟩
theorem Bz.on {u u' : World} {G : List Nat} {q : Nat} {t : TypeId} {cs : Array Value} (h : Bz u G q t cs) (hb : Below u.heap.size u u') : Bz u' G q t cs := ⟨h.b.below hb h.b.lt, h.n⟩
theorem Bz.new {u : World} {G : List Nat} (hG : ∀ y ∈ G, y < u.heap.size) (t : TypeId) (cs : Array Value) : Bz (u.alloc (.cells cs t)) G u.heap.size t cs := ⟨Bk.new u t cs, fun hm => by have := hG _ hm; omega⟩
theorem below_dn {w : World} (n : Nat) : Below w.heap.size w (w.drewN n) := ⟨rfl, rfl, rfl, Nat.le_refl _, fun _ _ => rfl⟩
theorem Ke.grown {w w' : World} {a : Nat} (h : w.grownBy w' (some a)) : Ke [a] w w' := ⟨h.os, h.tape, h.output, h.size, fun k hk hn => h.block k hk (fun e => hn (by injection e with e; simp [e]))⟩
theorem Ke.grown0 {w w' : World} (h : w.grownBy w' none) : Ke [] w w' := ⟨h.os, h.tape, h.output, h.size, fun k hk _ => h.block k hk (by simp)⟩
end Go.Proofs.YtinbegnojfpeiaaDoor

/- One row taken out of rows of k cells, in place; clear of rows. Nothing of the program is named here. -/
namespace Go.Proofs.YtinbegnojfpeiaaDoor
set_option linter.unusedVariables false
set_option maxRecDepth 100000
set_option linter.unusedSimpArgs false
open Go.RowKit

/-- Cells laid over a block that is known whole. -/
theorem Bk.setCells {g : Nat} {e : TypeId} : ∀ (vs : List Value) (o : Nat) {w : World} {cur : Array Value}, Bk w g e cur → o + vs.length ≤ cur.size → ∃ cur', Bk (w.setCells g o vs) g e cur' ∧ cur'.toList = cur.toList.take o ++ (vs ++ cur.toList.drop (o + vs.length))
  | [], o, w, cur, h, _ => ⟨cur, h, by simp⟩
  | v :: r, o, w, cur, h, ho => by
    simp only [List.length_cons] at ho
    obtain ⟨cur', h1, h2⟩ := Bk.setCells r (o + 1) (h.set o v) (by simp; omega)
    refine ⟨cur', h1, ?_⟩
    rw [h2]
    have ho2 : o < cur.toList.length := by simp; omega
    rw [Array.toList_setIfInBounds, List.set_eq_take_append_cons_drop, if_pos ho2]
    have l1 : (cur.toList.take o).length = o := by rw [List.length_take]; omega
    rw [List.take_append, List.drop_append, l1]
    simp only [Nat.add_sub_cancel_left, List.take_succ_cons, List.take_zero, List.length_cons]
    rw [List.take_of_length_le (by rw [l1]; omega), List.drop_of_length_le (by rw [l1]; omega)]
    have e1 : o + 1 + r.length - o = r.length + 1 := by omega
    rw [e1, List.drop_succ_cons, List.drop_drop]
    simp only [List.append_assoc, List.cons_append, List.nil_append]
    have e2 : o + 1 + r.length = o + (r.length + 1) := by omega
    rw [e2]
theorem fl_take {β : Type} {k : Nat} {f : β → Array Value} (hf : ∀ x, (f x).size = k) : ∀ (l : List β) (i : Nat), fl f (l.take i) = (fl f l).take (i * k)
  | [], i => by simp [fl]
  | x :: l, 0 => by simp [fl]
  | x :: l, i + 1 => by
    have := fl_take hf l i
    simp only [fl, List.take_succ_cons, List.flatMap_cons] at this ⊢
    have e : (f x).toList.length = k := by rw [Array.length_toList, hf]
    rw [this, List.take_append, e, Nat.add_mul, Nat.one_mul, Nat.add_sub_cancel, List.take_of_length_le (l := (f x).toList) (by rw [e]; omega)]
theorem fl_drop {β : Type} {k : Nat} {f : β → Array Value} (hf : ∀ x, (f x).size = k) : ∀ (l : List β) (i : Nat), fl f (l.drop i) = (fl f l).drop (i * k)
  | [], i => by simp [fl]
  | x :: l, 0 => by simp [fl]
  | x :: l, i + 1 => by
    have := fl_drop hf l i
    simp only [fl, List.drop_succ_cons, List.flatMap_cons] at this ⊢
    have e : (f x).toList.length = k := by rw [Array.length_toList, hf]
    rw [this, List.drop_append, e, Nat.add_mul, Nat.one_mul, Nat.add_sub_cancel, List.drop_of_length_le (l := (f x).toList) (by rw [e]; omega), List.nil_append]
theorem fl_one {β : Type} {P : Program} {t e : TypeId} {k by_ : Nat} {f : β → Array Value} (R : Ro P t e k by_ f) (l : List β) : ∀ u ∈ fl f l, u.oneCell' = true := by
  intro u hu
  obtain ⟨y, _, hy⟩ := fl_mem hu
  exact R.one y u hy
theorem ke_setCells {L : List Nat} {g : Nat} (hg : g ∈ L) : ∀ (vs : List Value) (o : Nat) {a b : World}, Ke L a b → Ke L a (b.setCells g o vs)
  | [], _, _, _, h => h
  | v :: r, o, _, _, h => ke_setCells hg r (o + 1) (h.set (p := ⟨g, o, none⟩) hg v)
/-- clear, of rows of any size. -/
theorem run_clear_rows {P : Program} (w : World) (t e ty : TypeId) (z : Value) (zs : List Value) (ht : P.underlying t = some (.slice e)) (hv : ∀ w, (zeroValue e).run P w = .ok z w) (b o n c : Nat) (hn : 0 < n) (hz : (Builtin.zeroCells z.cells n).toList = zs) (h1 : ∀ v ∈ zs, v.oneCell' = true)
    (hc : ∀ j, j < zs.length → (w.cell? ⟨b, o + j, none⟩).isSome = true) (hf : ∀ j, j < zs.length → w.frozen? ⟨b, o + j, none⟩ = false) :
    (Builtin.clear_ #[t] ty #[.slice (some ⟨b, o, none⟩) n c]).run P w = .ok (.tuple #[]) (w.setCells b o zs) := by
  have hst := run_storeCells_cells (P := P) b o zs 0 w (by simpa using hc) (by simpa using hf) h1
  simp only [Nat.add_zero] at hst
  obtain ⟨m, rfl⟩ : ∃ m, n = m + 1 := ⟨n - 1, by omega⟩
  simp [Builtin.clear_, run_underlying ht, hv, hz, hst]
section
variable {β : Type} {e : TypeId} {k : Nat} {f : β → Array Value} {w : World} {B g c : Nat} {l : List β}
/-- What is left when the i-th row of l is taken out: what stood behind it is laid over it, and the last one cleared. -/
theorem Ow.out (hf : ∀ x, (f x).size = k) (h : Ow e k f w B (some ⟨g, 0, none⟩) c l) (i : Nat) (hi : i < l.length) (zs : List Value) (hz : zs.length = k) :
    (∀ t u, (fl f (l.drop (i + 1)))[t]? = some u → w.cell? ⟨g, (i + 1) * k + t, none⟩ = some u) ∧
    (∀ j, j < l.length * k → (w.cell? ⟨g, j, none⟩).isSome = true ∧ w.frozen? ⟨g, j, none⟩ = false) ∧
    (∀ j, j < l.length * k → ((w.setCells g (i * k) (fl f (l.drop (i + 1)))).cell? ⟨g, j, none⟩).isSome = true ∧ (w.setCells g (i * k) (fl f (l.drop (i + 1)))).frozen? ⟨g, j, none⟩ = false) ∧
    ∃ w', w' = (w.setCells g (i * k) (fl f (l.drop (i + 1)))).setCells g ((l.length - 1) * k) zs ∧ Ow e k f w' B (some ⟨g, 0, none⟩) c (l.take i ++ l.drop (i + 1)) ∧ Ke [g] w w' := by
  have hcell := fun q hq => World.ownsRow.cellAt h q hq
  obtain ⟨hxs, hv⟩ := h
  rcases hv with ⟨hv, _⟩ | ⟨g', cap, cur, hv, hg, hh, hcap, hm, hcs, htk⟩
  · injection hv with h1; cases h1
  injection hv with h1 h2 h3
  injection h1 with h1
  injection h1 with h1
  subst h1; subst h3
  have hb : Bk w g e cur := hh
  have l0 : cur.toList.length = cur.size := Array.length_toList
  have hlk : l.length * k ≤ cur.size := by rw [hcs]; exact Nat.mul_le_mul_right k hcap
  have hflen : (fl f (l.drop (i + 1))).length = (l.length - (i + 1)) * k := by rw [fl_length hf, List.length_drop]
  have e1 : i * k + (l.length - (i + 1)) * k = (l.length - 1) * k := by rw [← Nat.add_mul]; congr 1; omega
  have e2 : (l.length - 1) * k + k = l.length * k := by
    have : l.length = (l.length - 1) + 1 := by omega
    conv => rhs; rw [this, Nat.add_mul, Nat.one_mul]
  obtain ⟨c1, b1, t1⟩ := Bk.setCells (fl f (l.drop (i + 1))) (i * k) hb (by rw [hflen]; omega)
  have s1 : c1.size = cur.size := by
    have := congrArg List.length t1
    rw [List.length_append, List.length_append, List.length_take, List.length_drop, hflen] at this
    simp only [Array.length_toList] at this
    omega
  have l1 : c1.toList.length = c1.size := Array.length_toList
  obtain ⟨c2, b2, t2⟩ := Bk.setCells zs ((l.length - 1) * k) b1 (by rw [hz, s1]; omega)
  have s2 : c2.size = cur.size := by
    have := congrArg List.length t2
    rw [List.length_append, List.length_append, List.length_take, List.length_drop, hz] at this
    simp only [Array.length_toList] at this
    omega
  refine ⟨fun t u hu => ?_, fun j hj => ?_, fun j hj => ?_, _, rfl, ⟨by rw [fl_length hf], .inr ⟨g, c, c2, rfl, hg, b2, ?_, hm, by rw [s2, hcs], ?_⟩⟩, ?_⟩
  · have ht : t < (l.length - (i + 1)) * k := by
      have := (List.getElem?_eq_some_iff.1 hu).1
      rwa [hflen] at this
    rw [fl_drop hf, List.getElem?_drop, ← htk, List.getElem?_take, if_pos (by
      have : (i + 1) * k + (l.length - (i + 1)) * k = l.length * k := by rw [← Nat.add_mul]; congr 1; omega
      omega)] at hu
    rw [hb.cell, ← Array.getElem?_toList]
    exact hu
  · rw [hb.cell, Array.getElem?_eq_getElem (by omega)]
    exact ⟨rfl, hb.frozen _⟩
  · rw [b1.cell, Array.getElem?_eq_getElem (by omega)]
    exact ⟨rfl, b1.frozen _⟩
  · rw [List.length_append, List.length_take, List.length_drop]; omega
  · have hlen : (l.take i ++ l.drop (i + 1)).length = l.length - 1 := by rw [List.length_append, List.length_take, List.length_drop]; omega
    rw [hlen, t2, List.take_append_of_le_length (by rw [List.length_take, l1]; omega), List.take_take, Nat.min_self, t1, ← List.append_assoc, List.take_append_of_le_length (by rw [List.length_append, List.length_take, hflen, l0]; omega),
      List.take_of_length_le (by rw [List.length_append, List.length_take, hflen, l0]; omega), fl_app, fl_take hf, ← htk, List.take_take, Nat.min_eq_left (Nat.mul_le_mul_right k (by omega))]
  · exact ke_setCells (List.mem_singleton.2 rfl) _ _ (ke_setCells (List.mem_singleton.2 rfl) _ _ (Ke.refl _ _))
end
end Go.Proofs.YtinbegnojfpeiaaDoor

/- A text as bytes anew. -/
namespace Go.Proofs.YtinbegnojfpeiaaDoor
set_option linter.unusedVariables false
set_option maxRecDepth 100000
set_option linter.unusedSimpArgs false
open Go.RowKit

theorem conv_back (B : ByteArray) (hB : B.size ≤ 1099511627776) (w : World) : ∃ (cap : Nat) (ob : Obj), (convert 9 50 (.string B)).run Tryd.prog w = .ok (.slice (some ⟨w.heap.size, 0, none⟩) B.size cap) (w.drew.alloc ob) ∧ B.size ≤ cap ∧ cap ≤ 9223372036854775807 ∧ Rb (w.drew.alloc ob) (w.drew.alloc ob).heap.size (some ⟨w.heap.size, 0, none⟩) B.data.toList := by
  refine ⟨_, _, run_bytes_of_string w 9 50 5 B Tryd.underlying9 Tryd.underlying50 Tryd.underlying5, grownCap_ge _ _ _ _, ?_, ?_⟩
  · have h := grownCap_le_maxLen w B.size 0 5 (by unfold maxLen; omega)
    unfold maxLen at h
    omega
  · refine .inr ⟨w.heap.size, 0, rfl, by show _ < (w.heap.push _).size; rw [Array.size_push]; omega, fun i hi => ?_⟩
    have hi' : i < B.data.size := by simpa using hi
    refine (cell_of_row (w.drew.alloc _) w.heap.size (0 + i) _ _ _ (heap_alloc_new w.drew _)).trans ?_
    rw [Nat.zero_add, bytesRow_at B _ i hi']
    rfl
end Go.Proofs.YtinbegnojfpeiaaDoor
