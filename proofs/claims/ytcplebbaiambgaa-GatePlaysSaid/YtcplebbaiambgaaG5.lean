/- Lib1, Ke, VtM, Gt1, Syn2, Gt2, GtM, GtMap: texts of this seat, one behind the other. -/
import Derived.Test.YtcplebbaiambgaaG4
import Derived.Test.YtcplebbaiambgaaG3
import Derived.Laws.CopyOwn
import Derived.BigQuiet
import Derived.Deep.QuietTactic
import Derived.BigRegion
import Derived.Test.YtcplebbaiambgaaG1
import Derived.Test.YtcplebbaiambgaaG2
import Derived.Maps.OwnSet
/- Small words for walks over slices of bytes. -/
namespace Go.Proofs.Ytcplebbaiambgaa
set_option linter.unusedVariables false
set_option maxRecDepth 100000
set_option linter.unusedSimpArgs false
open Go.RowKit

theorem Rb.on {u u' : World} {A : Option Addr} {l : List UInt8} (h : Rb u u.heap.size A l) (hb : Below u.heap.size u u') : Rb u' u'.heap.size A l := (h.below hb (Nat.le_refl _)).more hb.size
/-- b[:hi]. -/
theorem slice_to (A : Option Addr) (n c hi : Nat) (h : hi ≤ n) (hc : n ≤ c) (u : World) : (Instr.sliceAt 94 (.slice A n c) none (some (.int .i64 (hi : Int))) none).run Try.prog u = .ok (.slice A hi c) u := by
  have h1 : (hi : Int) ≤ (n : Int) := by omega
  have h2 : (hi : Int) ≤ (c : Int) := by omega
  go_simp
/-- string(b), where an operation's guard is met, in a region that draws nothing. -/
theorem wpList_conv {P : Program} {ops : Array Oper} {Q : Exit → Act → World → Prop} {a : Act} {w : World} {rest : List Oper} {o : Oper} (hw : Region.wanted o (yielded ops a.tmps) = true) (src e dst : TypeId) (x : Operand) (ho : o.op = .convert src dst x)
    (A : Option Addr) (n c : Nat) (l : List UInt8) (hx : a.eval x = .slice A n c) (hn : l.length = n) {B : Nat} (hR : Rb w B A l) (hs : P.underlying src = some (.slice e)) (he : P.underlying e = some (.int .u8)) (hd : P.underlying dst = some .string)
    (h : wpList P ops Q rest (a.put o.dst (.string (bs l))) w) : wpList P ops Q (o :: rest) a w :=
  wpList_wanted hw fun K hK => by
    have h1 := str_of (P := P) hR src e dst hs he hd n c hn
    unfold Oper.wp execOp
    simp only [ho, hx, Sem.run_bind, h1, Result.andThen_ok, Sem.run_pure]
    exact hK _ _ h
/-- b[lo:lo + many]. -/
theorem slice_mid (A : Option Addr) (n c k q : Nat) (h : k + q ≤ n) (hc : n ≤ c) (u : World) : (Instr.sliceAt 94 (.slice A n c) (some (.int .i64 (k : Int))) (some (.int .i64 ((k : Int) + (q : Int)))) none).run Try.prog u = .ok (.slice (tailA A c k) q (c - k)) u := by
  have e : (k : Int) + (q : Int) = ((k + q : Nat) : Int) := by omega
  have h1 : (k : Int) ≤ ((k + q : Nat) : Int) := by omega
  have h2 : ((k + q : Nat) : Int) ≤ (c : Int) := by omega
  have e2 : k + q - k = q := by omega
  rw [e]
  generalize hj : k + q = j at h1 h2 e2 ⊢
  unfold tailA
  go_simp
/-- b[lo:hi] in a region that draws nothing. -/
theorem wpList_two {P : Program} {ops : Array Oper} {rest : List Oper} {o : Oper} {a : Act} {Q : Exit → Act → World → Prop} {w : World} (hgd : o.guard = none) (t : TypeId) (x lo hi : Operand) (ho : o.op = .slice t x (some lo) (some hi) none) (vx vl vh v : Value) (hx : a.eval x = vx) (hl : a.eval lo = vl) (hh : a.eval hi = vh)
    (hr : (Instr.sliceAt t vx (some vl) (some vh) none).run P w = .ok v w) (h : wpList P ops Q rest (a.put o.dst v) w) : wpList P ops Q (o :: rest) a w :=
  wpList_plain hgd fun _ hK => by
    unfold Oper.wp execOp
    simp only [ho, Option.map_some, Option.map_none, hx, hl, hh, Sem.run_bind, hr, Result.andThen_ok, Sem.run_pure]
    exact hK _ _ h
/-- append of bytes, the new length being the sum. -/
theorem wp_app_n {P : Program} {ops : Array Oper} {rest : List Oper} {o : Oper} {a : Act} {Q : Exit → Act → World → Prop} {w : World} (hgd : o.guard = none) (s x : Operand) (t e : TypeId)
    (ho : o.op = .call { callee := .builtin .append, args := #[s, x], argTypes := #[t, t] }) (ht : P.underlying t = some (.slice e))
    (hi : (P.info? e).map (fun i => (i.zero, i.size, i.bytes)) = some (some (.int .u8 0), 1, 1)) (B : Nat) (l : List UInt8) (A : Option Addr) (n c : Nat) (hs : a.eval s = .slice A n c) (hn : l.length = n) (hown : OB w B e A c l)
    (k : List UInt8) (A' : Option Addr) (m c' B' : Nat) (hx : a.eval x = .slice A' m c') (hm : k.length = m) (hnil : A' = none → m = 0 ∧ c' = 0) (hR : Rb w B' A' k)
    (hlen : n + m ≤ 140737488355328) (hbase : B ≤ w.heap.size) (s' : Nat) (hsum : n + m = s')
    (h : ∀ A2 c2 w', OB w' B e A2 c2 (l ++ k) → w.grownBy w' (Value.slice A n c).ownBlock → Below B w w' → wpList P ops Q rest (a.put o.dst (.slice A2 s' c2)) w') : wpList P ops Q (o :: rest) a w :=
  wp_app_any hgd s x t e ho ht hi B l A n c hs hn hown k A' m c' B' hx hm hnil hR (by rw [hn, hm]; exact hlen) hbase (fun A2 c2 w' k1 k2 k3 => by rw [List.length_append, hn, hm, hsum]; exact h A2 c2 w' k1 k2 k3)
theorem OB.nil_ {w : World} {B : Nat} {e : TypeId} {A : Option Addr} {c : Nat} {l : List UInt8} (h : OB w B e A c l) (hA : A = none) : l.length = 0 ∧ c = 0 := by
  rcases h.2 with ⟨hv, h0⟩ | ⟨g, cap, cur, hv, _⟩
  · injection hv with _ _ h3
    exact ⟨h0, h3⟩
  · rw [hA] at hv; cases hv
theorem tail_nil {A : Option Addr} {n c k q : Nat} (h : A = none → n = 0 ∧ c = 0) (hq : k + q ≤ n) : tailA A c k = none → q = 0 ∧ c - k = 0 := fun e => by
  obtain ⟨h1, h2⟩ := h (tailA_none A c k e)
  omega
/-- b[:hi] in a region that draws nothing. -/
theorem wpList_to {P : Program} {ops : Array Oper} {rest : List Oper} {o : Oper} {a : Act} {Q : Exit → Act → World → Prop} {w : World} (hgd : o.guard = none) (t : TypeId) (x hi : Operand) (ho : o.op = .slice t x none (some hi) none) (vx vh v : Value) (hx : a.eval x = vx) (hh : a.eval hi = vh)
    (hr : (Instr.sliceAt t vx none (some vh) none).run P w = .ok v w) (h : wpList P ops Q rest (a.put o.dst v) w) : wpList P ops Q (o :: rest) a w :=
  wpList_plain hgd fun _ hK => by
    unfold Oper.wp execOp
    simp only [ho, Option.map_some, Option.map_none, hx, hh, Sem.run_bind, hr, Result.andThen_ok, Sem.run_pure]
    exact hK _ _ h
/-- min of two numbers, as one operation. -/
theorem op_min {P : Program} {o : Oper} {a : Act} {K : Act → World → Prop} {Q : Exit → Act → World → Prop} {w : World} (x y : Operand) (t : TypeId) (ho : o.op = .call { callee := .builtin .min, args := #[x, y], argTypes := #[t, t] }) (u v m : Int) (hx : a.eval x = .int .i64 u) (hy : a.eval y = .int .i64 v) (hm : min u v = m)
    (h : K (a.put o.dst (.int .i64 m)) w) : o.wp P a w K Q := by
  subst hm
  have e : (if v < u then v else u) = min u v := by split <;> omega
  have hr : (Builtin.min_ #[t, t] o.type #[.int .i64 u, .int .i64 v]).run P w = .ok (.int .i64 (min u v)) w := by rw [← e]; simp [Builtin.min_, Builtin.min2]
  unfold Oper.wp execOp
  simp only [ho, resolve, invoke, builtin, Sem.run_bind, Sem.run_pure, Result.andThen_ok, List.map_toArray, List.map_cons, List.map_nil, hx, hy, hr]
  exact h
/-- max of two numbers, as one operation. -/
theorem op_max {P : Program} {o : Oper} {a : Act} {K : Act → World → Prop} {Q : Exit → Act → World → Prop} {w : World} (x y : Operand) (t : TypeId) (ho : o.op = .call { callee := .builtin .max, args := #[x, y], argTypes := #[t, t] }) (u v m : Int) (hx : a.eval x = .int .i64 u) (hy : a.eval y = .int .i64 v) (hm : max u v = m)
    (h : K (a.put o.dst (.int .i64 m)) w) : o.wp P a w K Q := by
  subst hm
  have e : (if v > u then v else u) = max u v := by split <;> omega
  have hr : (Builtin.max_ #[t, t] o.type #[.int .i64 u, .int .i64 v]).run P w = .ok (.int .i64 (max u v)) w := by rw [← e]; simp [Builtin.max_, Builtin.max2]
  unfold Oper.wp execOp
  simp only [ho, resolve, invoke, builtin, Sem.run_bind, Sem.run_pure, Result.andThen_ok, List.map_toArray, List.map_cons, List.map_nil, hx, hy, hr]
  exact h
/-- The same in a region that draws nothing. -/
theorem wpList_min {P : Program} {ops : Array Oper} {rest : List Oper} {o : Oper} {a : Act} {Q : Exit → Act → World → Prop} {w : World} (hgd : o.guard = none) (x y : Operand) (t : TypeId) (ho : o.op = .call { callee := .builtin .min, args := #[x, y], argTypes := #[t, t] }) (u v m : Int) (hx : a.eval x = .int .i64 u) (hy : a.eval y = .int .i64 v) (hm : min u v = m)
    (h : wpList P ops Q rest (a.put o.dst (.int .i64 m)) w) : wpList P ops Q (o :: rest) a w :=
  wpList_plain hgd fun K hK => op_min x y t ho u v m hx hy hm (hK _ _ h)
theorem wpList_max {P : Program} {ops : Array Oper} {rest : List Oper} {o : Oper} {a : Act} {Q : Exit → Act → World → Prop} {w : World} (hgd : o.guard = none) (x y : Operand) (t : TypeId) (ho : o.op = .call { callee := .builtin .max, args := #[x, y], argTypes := #[t, t] }) (u v m : Int) (hx : a.eval x = .int .i64 u) (hy : a.eval y = .int .i64 v) (hm : max u v = m)
    (h : wpList P ops Q rest (a.put o.dst (.int .i64 m)) w) : wpList P ops Q (o :: rest) a w :=
  wpList_plain hgd fun K hK => op_max x y t ho u v m hx hy hm (hK _ _ h)
end Go.Proofs.Ytcplebbaiambgaa

/- What turns in memory: all that was there is as it was, but in some blocks. Slices of bytes that lie away from some blocks. copy as one operation. Nothing of the program is named here. -/
namespace Go.Proofs.Ytcplebbaiambgaa
set_option linter.unusedVariables false
set_option maxRecDepth 100000
set_option linter.unusedSimpArgs false
open Go.RowKit

/-- But in the blocks of L, all that was there is as it was. -/
structure Ke (L : List Nat) (w w' : World) : Prop where
  os : w'.os = w.os
  tape : w'.tape = w.tape
  output : w'.output = w.output
  size : w.heap.size ≤ w'.heap.size
  block : ∀ k, k < w.heap.size → k ∉ L → w'.heap[k]? = w.heap[k]?

theorem Ke.refl (L : List Nat) (w : World) : Ke L w w := ⟨rfl, rfl, rfl, Nat.le_refl _, fun _ _ _ => rfl⟩
theorem Ke.trans {L : List Nat} {a b c : World} (h : Ke L a b) (k : Ke L b c) : Ke L a c :=
  ⟨k.os.trans h.os, k.tape.trans h.tape, k.output.trans h.output, Nat.le_trans h.size k.size, fun i hi hL => (k.block i (Nat.lt_of_lt_of_le hi h.size) hL).trans (h.block i hi hL)⟩
theorem Ke.more {L L' : List Nat} {a b : World} (h : Ke L a b) (hL : ∀ x ∈ L, x ∈ L') : Ke L' a b := ⟨h.os, h.tape, h.output, h.size, fun k hk hn => h.block k hk (fun hx => hn (hL k hx))⟩
theorem Ke.nil {L : List Nat} {a b : World} (h : Ke [] a b) : Ke L a b := h.more (fun x hx => by cases hx)
theorem Ke.drew {L : List Nat} {a b : World} (h : Ke L a b) : Ke L a b.drew := ⟨h.os, h.tape, h.output, h.size, h.block⟩
theorem Ke.alloc {L : List Nat} {a b : World} (h : Ke L a b) (o : Obj) : Ke L a (b.alloc o) := h.trans ⟨rfl, rfl, rfl, by simp, fun k hk _ => Below.heap_alloc _ _ _ hk⟩
theorem Ke.set {L : List Nat} {a b : World} (h : Ke L a b) {p : Addr} (hp : p.block ∈ L) (u : Value) : Ke L a (b.setCell p u) :=
  h.trans ⟨rfl, rfl, rfl, by simp [World.setCell], fun k hk hn => Below.heap_setCell _ _ _ _ (fun e => hn (e ▸ hp))⟩
theorem Ke.row {L : List Nat} {a b : World} (h : Ke L a b) {g : Nat} (hg : g ∈ L) (cs : Array Value) : Ke L a (b.setRow g cs) :=
  h.trans ⟨rfl, rfl, rfl, by simp [World.setRow], fun k hk hn => setRow_other _ _ _ _ (fun e => hn (e ▸ hg))⟩
/-- A block that is behind all that was there may turn as it likes. -/
theorem Ke.new {L : List Nat} {g : Nat} {a b : World} (h : Ke (g :: L) a b) (hg : a.heap.size ≤ g) : Ke L a b :=
  ⟨h.os, h.tape, h.output, h.size, fun k hk hn => h.block k hk (fun hx => by
    rcases List.mem_cons.1 hx with rfl | hx
    · omega
    · exact hn hx)⟩
theorem Ke.of {w w' : World} (h : Below w.heap.size w w') : Ke [] w w' := ⟨h.os, h.tape, h.output, h.size, fun k hk _ => h.block k hk⟩
theorem Ke.below {L : List Nat} {w w' : World} {B : Nat} (h : Ke L w w') (hB : B ≤ w.heap.size) (hL : ∀ x ∈ L, B ≤ x) : Below B w w' :=
  ⟨h.os, h.tape, h.output, h.size, fun k hk => h.block k (by omega) (fun hx => by have := hL k hx; omega)⟩

theorem Bk.ke {L : List Nat} {w w' : World} {g : Nat} {t : TypeId} {cs : Array Value} (h : Bk w g t cs) (k : Ke L w w') (hg : g ∉ L) : Bk w' g t cs := (k.block g h.lt hg).trans h
theorem Bk.row {w : World} {g : Nat} {t : TypeId} {cs : Array Value} (h : Bk w g t cs) (ds : Array Value) : Bk (w.setRow g ds) g t ds := setRow_heap w g cs ds t _ h
theorem Bk.rowFar {w : World} {g g' : Nat} {t : TypeId} {cs : Array Value} (h : Bk w g t cs) (hn : g ≠ g') (ds : Array Value) : Bk (w.setRow g' ds) g t cs := (setRow_other w g' g ds hn).trans h

/-- The slice at A reads as the bytes l, and lies in none of the blocks of L. -/
def Rf (w : World) (L : List Nat) (A : Option Addr) (l : List UInt8) : Prop :=
  l = [] ∨ ∃ b o, A = some ⟨b, o, none⟩ ∧ b ∉ L ∧ b < w.heap.size ∧ ∀ i, (h : i < l.length) → w.cell? ⟨b, o + i, none⟩ = some (.int .u8 ((l[i]).toNat : Int))

theorem Rf.rb {w : World} {L : List Nat} {A : Option Addr} {l : List UInt8} (h : Rf w L A l) : Rb w w.heap.size A l := by
  rcases h with h | ⟨b, o, e, _, hb, hc⟩
  · exact .inl h
  · exact .inr ⟨b, o, e, hb, hc⟩
theorem Rb.rf {w : World} {B : Nat} {L : List Nat} {A : Option Addr} {l : List UInt8} (h : Rb w B A l) (hL : ∀ x ∈ L, B ≤ x) : Rf w L A l := by
  rcases h with h | ⟨b, o, e, hb, hc⟩
  · exact .inl h
  · by_cases h0 : l = []
    · exact .inl h0
    · have h1 := hc 0 (List.length_pos_iff.2 h0)
      exact .inr ⟨b, o, e, fun hx => by have := hL b hx; omega, World.block_lt_of_cell? w _ h1, hc⟩
theorem Rf.ke {w w' : World} {L L' : List Nat} {A : Option Addr} {l : List UInt8} (h : Rf w L A l) (k : Ke L' w w') (hL : ∀ x ∈ L', x ∈ L) : Rf w' L A l := by
  rcases h with h | ⟨b, o, e, hn, hb, hc⟩
  · exact .inl h
  · exact .inr ⟨b, o, e, hn, Nat.lt_of_lt_of_le hb k.size, fun i hi => (World.cell?_of_block (w := w) (a := ⟨b, o + i, none⟩) (k.block b hb (fun hx => hn (hL b hx)))).trans (hc i hi)⟩
theorem Rf.less {w : World} {L L' : List Nat} {A : Option Addr} {l : List UInt8} (h : Rf w L A l) (hL : ∀ x ∈ L', x ∈ L) : Rf w L' A l := by
  rcases h with h | ⟨b, o, e, hn, hb, hc⟩
  · exact .inl h
  · exact .inr ⟨b, o, e, fun hx => hn (hL b hx), hb, hc⟩
theorem Rf.bk {w : World} {L : List Nat} {g : Nat} {t : TypeId} {l : List UInt8} (h : Bk w g t (bcells l)) (hg : g ∉ L) : Rf w L (some ⟨g, 0, none⟩) l :=
  .inr ⟨g, 0, rfl, hg, h.lt, fun i hi => by rw [h.cell, Nat.zero_add, bcells_at l i hi]⟩
theorem Rf.front {w : World} {L : List Nat} {A : Option Addr} {l : List UInt8} (h : Rf w L A l) (n : Nat) : Rf w L A (l.take n) := by
  rcases h with h | ⟨b, o, e, hn, hb, hc⟩
  · left; rw [h]; simp
  · exact .inr ⟨b, o, e, hn, hb, fun i hi => by
      have hi' : i < l.length := by rw [List.length_take] at hi; omega
      rw [hc i hi', List.getElem_take]⟩
theorem Rf.tail {w : World} {L : List Nat} {A : Option Addr} {l : List UInt8} {c : Nat} (h : Rf w L A l) (lo : Nat) (hc : l.length ≤ c) : Rf w L (tailA A c lo) (l.drop lo) := by
  by_cases h0 : l.drop lo = []
  · left; exact h0
  · have hlo : lo < l.length := by
      rcases Nat.lt_or_ge lo l.length with h1 | h1
      · exact h1
      · exact absurd (List.drop_of_length_le h1) h0
    rcases h with h | ⟨b, o, e, hn, hb, hcl⟩
    · rw [h] at hlo; simp at hlo
    · subst e
      have e2 : tailA (some ⟨b, o, none⟩) c lo = some ⟨b, o + lo, none⟩ := by
        unfold tailA
        rw [if_neg (by omega)]
        simp only [Option.map_some, Nat.mul_one, Addr.add]
        split <;> simp_all
      rw [e2]
      refine .inr ⟨b, o + lo, rfl, hn, hb, fun i hi => ?_⟩
      have hi' : lo + i < l.length := by rw [List.length_drop] at hi; omega
      have := hcl (lo + i) hi'
      rw [← Nat.add_assoc] at this
      rw [this, List.getElem_drop]

theorem tail_at (g o c lo : Nat) (h : c ≠ lo) : tailA (some ⟨g, o, none⟩) c lo = some ⟨g, o + lo, none⟩ := by
  unfold tailA
  rw [if_neg h]
  simp only [Option.map_some, Nat.mul_one, add_plain]
theorem bcells_splice (L cs : List UInt8) (o : Nat) : ((bcells L).toList.take o ++ ((bcells cs).toList ++ (bcells L).toList.drop (o + cs.length))).toArray = bcells (splice L o cs) := by
  unfold bcells splice
  simp

/-- copy into a row that is known whole, as one operation. -/
theorem op_copy {P : Program} {o : Oper} {a : Act} {K : Act → World → Prop} {Q : Exit → Act → World → Prop} {w : World} (d s : Operand) (dT sT elem : TypeId)
    (ho : o.op = .call { callee := .builtin .copy, args := #[d, s], argTypes := #[dT, sT] }) (hu : P.underlying dT = some (.slice elem)) (hsz : (P.info? elem).map (·.size) = some 1)
    (dp sp : Option Addr) (dLen dCap sLen sCap : Nat) (hd : a.eval d = .slice dp dLen dCap) (hs : a.eval s = .slice sp sLen sCap)
    (g off : Nat) (cur : List UInt8) (t : TypeId) (hg : Bk w g t (bcells cur)) (cs : List UInt8) (hn : cs.length = min sLen dLen) (hpos : 0 < cs.length → dp = some ⟨g, off, none⟩) {B : Nat} (hR : Rb w B sp cs)
    (hfit : off + cs.length ≤ cur.length) (h : K (a.put o.dst (.int .i64 (cs.length : Int))) (w.setRow g (bcells (splice cur off cs)))) : o.wp P a w K Q := by
  have hn' : cs.length = Nat.min sLen dLen := hn
  by_cases h0 : cs = []
  · subst h0
    have hrun := run_copy_none (P := P) w dT sT o.type elem dp sp dLen dCap sLen sCap hu hsz (by rw [← hn']; rfl)
    have e1 : splice cur off [] = cur := by simp [splice]
    rw [e1, setRow_self w g _ t _ hg] at h
    unfold Oper.wp
    simp [execOp, ho, resolve, invoke, builtin, hd, hs, hrun, Result.andThen]
    exact h
  · obtain rfl := hpos (List.length_pos_iff.2 h0)
    rcases hR with hR | ⟨b, o', rfl, _, hc⟩
    · exact absurd hR h0
    · have hrun := run_copy_row (P := P) w dT sT o.type elem g off dLen dCap ⟨b, o', none⟩ sLen sCap (bcells cur) t (bcells cs).toList hu hsz hg (by simpa [bcells] using hn') (fun j v hj => by
          have hlt : j < cs.length := by
            have := (List.getElem?_eq_some_iff.1 hj).1
            simpa [bcells] using this
          rw [add_plain, hc j hlt]
          simp [bcells, hlt] at hj
          exact congrArg some hj) (by simpa [bcells] using hfit) (fun v hv => by
          simp [bcells] at hv
          obtain ⟨x, _, rfl⟩ := hv
          rfl)
      have e2 : ((bcells cur).toList.take off ++ (bcells cs).toList ++ (bcells cur).toList.drop (off + (bcells cs).toList.length)).toArray = bcells (splice cur off cs) := by
        rw [← bcells_splice]
        simp [bcells]
      have e3 : goInt (bcells cs).toList.length = .int .i64 (cs.length : Int) := by simp [bcells, goInt]
      rw [e2, e3] at hrun
      unfold Oper.wp
      simp [execOp, ho, resolve, invoke, builtin, hd, hs, hrun, Result.andThen]
      exact h
end Go.Proofs.Ytcplebbaiambgaa

/- Vaults: what the document asks, as Lean functions; what blocks of cells keep when a map turns. -/
namespace Go.Proofs.Ytcplebbaiambgaa
set_option linter.unusedVariables false
set_option maxRecDepth 100000
set_option linter.unusedSimpArgs false
open Go.RowKit

def tkN (l : List Tn) (a b : ByteArray) : Option Tk := fK b ((l.find? fun t => nmEq t.name a).getD zeroTn).toks
def tkT (l : List Tv) (a b : ByteArray) : Option Tk := fK b ((fT a l).getD zeroTv).t.toks
theorem fT_tens (s : ByteArray) (l : List Tv) : ((fT s l).getD zeroTv).t = ((l.map (·.t)).find? fun t => nmEq t.name s).getD zeroTn := by
  unfold fT
  rw [List.find?_map]
  have : ((fun t : Tn => nmEq t.name s) ∘ fun x : Tv => x.t) = fun x : Tv => nmEq x.t.name s := rfl
  rw [this]
  cases l.find? (fun x : Tv => nmEq x.t.name s) <;> rfl
theorem tkT_is (l : List Tv) (a b : ByteArray) : tkT l a b = tkN (l.map (·.t)) a b := by
  unfold tkT tkN; rw [fT_tens]
/-- What is kept of a tenant. -/
def kpT (t : Tn) : Tn := ⟨t.name, 0, 0, [], t.toks⟩
theorem tkN_kept (l : List Tn) (a b : ByteArray) : tkN (l.map kpT) a b = tkN l a b := by
  unfold tkN
  congr 1
  rw [List.find?_map]
  have : ((fun t : Tn => nmEq t.name a) ∘ kpT) = fun t : Tn => nmEq t.name a := rfl
  rw [this]
  cases l.find? (fun t : Tn => nmEq t.name a) <;> rfl
theorem fK_name {s : ByteArray} {l : List Tk} {k : Tk} (h : fK s l = some k) : k.name = s ∧ k ∈ l := by
  unfold fK at h
  have h1 := List.find?_some h
  exact ⟨nmEq_iff.1 h1, List.mem_of_find?_eq_some h⟩
/-- The tenant that a token was found of. -/
theorem tkT_name {l : List Tv} {a b : ByteArray} {k : Tk} (h : tkT l a b = some k) : ((fT a l).getD zeroTv).t.name = a ∧ k.name = b := by
  unfold tkT at h
  refine ⟨?_, (fK_name h).1⟩
  cases hq : fT a l with
  | none => rw [hq] at h; cases h
  | some y => exact nmEq_iff.1 (fT_mem hq).2
theorem tkN_till {c : Cg} (hc : cfgB c = true) {a b : ByteArray} {k : Tk} (h : tkN c.tens a b = some k) : 0 ≤ k.till ∧ k.till ≤ 1099511627776 ∧ 1 ≤ k.sec.size ∧ k.sec.size ≤ 32 := by
  obtain ⟨_, _, _, _, _, _, h7⟩ := cfgB_parts hc
  unfold tkN at h
  cases hq : c.tens.find? (fun t => nmEq t.name a) with
  | none => rw [hq] at h; cases h
  | some y =>
    rw [hq] at h
    obtain ⟨_, _, _, _, _, _, a7⟩ := tenB_parts (h7 y (List.mem_of_find?_eq_some hq))
    have := a7 k (fK_name h).2
    unfold tokB at this
    simp only [Bool.and_eq_true, decide_eq_true_eq] at this
    omega

abbrev Rev := List (ByteArray × ByteArray)
/-- Was it revoked? -/
def inR (g : Rev) (a b : ByteArray) : Bool := g.any fun p => nmEq p.1 a && nmEq p.2 b
def gdB (o : Option Tk) (r : Bool) (now : Int) : Bool := match o with
  | none => false
  | some k => !r && decide (now < k.till)
def wnB (o : Option Tk) (a b n : ByteArray) : List UInt8 := match o with
  | none => []
  | some k => proofB k.sec.data.toList [a, b, n]
def rvB (o : Option Tk) (r : Bool) : Bool := match o with
  | none => false
  | some _ => !r
/-- What is revoked behind that. -/
def rvG (o : Option Tk) (g : Rev) (a b : ByteArray) : Rev := match o with
  | none => g
  | some _ => (a, b) :: g
def ckI (good : Bool) (want : List UInt8) (proof : ByteArray) : Int := if good = false then 3 else if want = [] ∨ want ≠ proof.data.toList then 101 else 0
theorem inR_iff {g : Rev} {a b : ByteArray} : inR g a b = true ↔ (a, b) ∈ g := by
  unfold inR
  rw [List.any_eq_true]
  constructor
  · rintro ⟨⟨x, y⟩, h, e⟩
    rw [Bool.and_eq_true, nmEq_iff, nmEq_iff] at e
    obtain ⟨rfl, rfl⟩ := e
    exact h
  · intro h
    exact ⟨(a, b), h, by rw [Bool.and_eq_true, nmEq_iff, nmEq_iff]; exact ⟨rfl, rfl⟩⟩
theorem inR_cons (a b : ByteArray) (g : Rev) (x y : ByteArray) : inR ((a, b) :: g) x y = ((nmEq a x && nmEq b y) || inR g x y) := by
  unfold inR; rw [List.any_cons]

/-! ### What stays when a map turns -/
theorem not_cell {w : World} {mb : Nat} {es : Array MapEntry} {ck : Nat} (hm : w.heap[mb]? = some (.map es ck)) (o : Nat) : w.cell? ⟨mb, o, none⟩ = none := by
  unfold World.cell?
  simp [hm]
theorem Rw.ke {β : Type} {k : Nat} {f : β → Array Value} {w w' : World} {A : Option Addr} {l : List β} {mb : Nat} {es : Array MapEntry} {ck : Nat} (hk : 0 < k) (hf : ∀ x, (f x).size = k) (h : Rw k f w A l) (K : Ke [mb] w w') (hm : w.heap[mb]? = some (.map es ck)) : Rw k f w' A l := by
  rcases h with h | ⟨b, o, e, hlt, hc⟩
  · exact .inl h
  · by_cases h0 : l = []
    · exact .inl h0
    · have hne : b ≠ mb := by
        intro e1
        subst e1
        have h1 := hc 0 (List.length_pos_iff.2 h0) 0 hk
        rw [not_cell hm, Array.getElem?_eq_getElem (by rw [hf]; exact hk)] at h1
        cases h1
      exact .inr ⟨b, o, e, Nat.lt_of_lt_of_le hlt K.size, fun i hi j hj => (World.cell?_of_block (w := w) (a := ⟨b, o + i * k + j, none⟩) (K.block b hlt (by simpa using hne))).trans (hc i hi j hj)⟩
theorem RT1.ke {w w' : World} {x : Tv} {mb : Nat} {es : Array MapEntry} {ck : Nat} (h : RT1 w x) (K : Ke [mb] w w') (hm : w.heap[mb]? = some (.map es ck)) : RT1 w' x :=
  ⟨Rw.ke (by decide) (fun _ => rfl) h.n K hm, Rw.ke (by decide) (fun _ => rfl) h.k K hm, h.fn, h.fk, h.lt, h.sz, h.szk⟩
theorem RT.ke {w w' : World} {A : Option Addr} {l : List Tv} {mb : Nat} {es : Array MapEntry} {ck : Nat} (h : RT w A l) (K : Ke [mb] w w') (hm : w.heap[mb]? = some (.map es ck)) : RT w' A l :=
  ⟨Rw.ke (by decide) (fun _ => rfl) h.r K hm, fun x hx => (h.each x hx).ke K hm⟩
theorem RC.ke {w w' : World} {x : Cv} {mb : Nat} {es : Array MapEntry} {ck : Nat} (h : RC w x) (K : Ke [mb] w w') (hm : w.heap[mb]? = some (.map es ck)) : RC w' x := ⟨h.r.ke K hm, h.f⟩
theorem Bk.keM {w w' : World} {g : Nat} {t : TypeId} {cs : Array Value} {mb : Nat} {es : Array MapEntry} {ck : Nat} (h : Bk w g t cs) (K : Ke [mb] w w') (hm : w.heap[mb]? = some (.map es ck)) : Bk w' g t cs := by
  refine h.ke K ?_
  simp only [List.mem_singleton]
  intro e
  subst e
  have h1 : w.heap[g]? = some (.cells cs t) := h
  rw [hm] at h1
  cases h1
end Go.Proofs.Ytcplebbaiambgaa

/- What a tenant of a gate has some of: more, less, many, counted: their contracts. -/
namespace Go.Proofs.Ytcplebbaiambgaa
set_option linter.unusedVariables false
set_option maxRecDepth 100000
set_option linter.unusedSimpArgs false
open Go.RowKit

theorem Ke.drawn (L : List Nat) (a : World) (n : Nat) : Ke L a (a.drewN n) := ⟨rfl, rfl, rfl, Nat.le_refl _, fun _ _ _ => rfl⟩
/-- The cells of a tenant: n of a names, v of b visitors. -/
abbrev gcl (n v : Nat) (a b : Int) (S : Value) : Array Value := #[.int .i64 0, .int .i64 0, .int .i64 (n : Int), .int .i64 a, .int .i64 (v : Int), .int .i64 b, S]

set_option maxRecDepth 100000 in
set_option maxHeartbeats 1000000 in
theorem counted_ok (k : Int) (u : World) : Calls Try.prog 27 #[.int .i64 k] u fun e u' => e = .returned (.bool (decide (k = 1) || decide (k = 2))) ∧ Below u.heap.size u u' := by
  by_cases h1 : k = 1
  · subst h1
    go_enter Try.func27, Try.ntmps27
    go_wp2
    go_ret
    exact ⟨rfl, Below.refl _ _⟩
  · by_cases h2 : k = 2
    · subst h2
      go_enter Try.func27, Try.ntmps27
      go_wp2
      go_ret
      exact ⟨rfl, Below.refl _ _⟩
    · go_enter Try.func27, Try.ntmps27
      go_wp2
      go_ret
      exact ⟨by simp [h1, h2], Below.refl _ _⟩
set_option maxRecDepth 100000 in
set_option maxHeartbeats 1000000 in
theorem many1_ok (u : World) (b n v : Nat) (x y : Int) (S : Value) (h : Bk u b 67 (gcl n v x y S)) :
    Calls Try.prog 33 #[.pointer (some ⟨b, 0, none⟩), .int .i64 1] u fun e u' => e = .returned (.int .i64 (n : Int)) ∧ Below u.heap.size u u' := by
  have c2 : u.cell? ⟨b, 2, none⟩ = some (.int .i64 (n : Int)) := h.cell 2
  go_enter Try.func33, Try.ntmps33
  go_wp2
  go_ret
  exact ⟨rfl, Below.refl _ _⟩
set_option maxRecDepth 100000 in
set_option maxHeartbeats 1000000 in
theorem many2_ok (u : World) (b n v : Nat) (x y : Int) (S : Value) (h : Bk u b 67 (gcl n v x y S)) :
    Calls Try.prog 33 #[.pointer (some ⟨b, 0, none⟩), .int .i64 2] u fun e u' => e = .returned (.int .i64 (v : Int)) ∧ Below u.heap.size u u' := by
  have c4 : u.cell? ⟨b, 4, none⟩ = some (.int .i64 (v : Int)) := h.cell 4
  go_enter Try.func33, Try.ntmps33
  go_wp2
  go_ret
  exact ⟨rfl, Below.refl _ _⟩
-- GEN (gen_gt1.py)
set_option maxRecDepth 100000 in
set_option maxHeartbeats 2000000 in
theorem more1_ok (u : World) (b n v : Nat) (x y : Int) (S : Value) (h : Bk u b 67 (gcl n v x y S)) (hn : n ≤ 1000000) :
    Calls Try.prog 32 #[.pointer (some ⟨b, 0, none⟩), .int .i64 1] u fun e u' => (e = .returned (.bool (decide ((n : Int) < x))) ∧ Bk u' b 67 (if (n : Int) < x then gcl (n + 1) (v) x y S else gcl n v x y S)) ∧ Ke [b] u u' := by
  have c2 : u.cell? ⟨b, 2, none⟩ = some (.int .i64 (n : Int)) := h.cell 2
  have c3 : u.cell? ⟨b, 3, none⟩ = some (.int .i64 x) := h.cell 3
  have f2 : u.frozen? ⟨b, 2, none⟩ = false := h.frozen 2
  have H := Lib.hid h
  clear h
  by_cases hq : (n : Int) < x
  · have hq2 : ¬ (x ≤ (n : Int)) := by omega
    have hw : IntKind.i64.wrap ((n : Int) + 1) = ((n + 1 : Nat) : Int) := (iwrap _ (n + 1) (by omega) (by omega)).1
    go_enter Try.func32, Try.ntmps32
    go_wp2
    go_quiet (fail)
    go_wp2
    go_region
    go_wp2
    have hk := (H.out.drewN (nq + 1)).set 2 (.int .i64 ((n : Int) + 1))
    simp only [List.setIfInBounds_toArray, List.set_cons_zero, List.set_cons_succ] at hk
    have hke : Ke [b] u ((u.drewN (nq + 1)).setCell ⟨b, 2, none⟩ (.int .i64 ((n : Int) + 1))) := (Ke.drawn [b] u (nq + 1)).set (p := ⟨b, 2, none⟩) (by simp) _
    go_ret
    refine ⟨⟨by first | rfl | (rw [decide_eq_true hq]; rfl), ?_⟩, hke⟩
    have e1 : ((n + 1 : Nat) : Int) = (n : Int) + 1 := by omega
    simp only [gcl, e1]
    exact hk
  · have HQ := Lib.hid hq
    have hqd : decide ((n : Int) < x) = false := decide_eq_false hq
    have hq2 : x ≤ (n : Int) := by omega
    go_enter Try.func32, Try.ntmps32
    go_wp2
    go_quiet (fail)
    go_wp2
    go_ret
    refine ⟨⟨by first | rfl | (rw [decide_eq_false HQ.out]; rfl), ?_⟩, Ke.drawn _ _ _⟩
    first | exact H.out.drewN _ | (rw [if_neg (by omega)]; exact H.out.drewN _)
set_option maxRecDepth 100000 in
set_option maxHeartbeats 2000000 in
theorem less1_ok (u : World) (b n v : Nat) (x y : Int) (S : Value) (h : Bk u b 67 (gcl n v x y S)) (hn : n ≤ 1000000) :
    Calls Try.prog 28 #[.pointer (some ⟨b, 0, none⟩), .int .i64 1] u fun e u' => (e = .returned (.bool (decide (0 < n))) ∧ Bk u' b 67 (gcl (n - 1) (v) x y S)) ∧ Ke [b] u u' := by
  have c2 : u.cell? ⟨b, 2, none⟩ = some (.int .i64 (n : Int)) := h.cell 2
  have f2 : u.frozen? ⟨b, 2, none⟩ = false := h.frozen 2
  have H := Lib.hid h
  clear h
  by_cases hq : 0 < n
  · have hw : IntKind.i64.wrap ((n : Int) - 1) = ((n - 1 : Nat) : Int) := (iwrap _ (n - 1) (by omega) (by omega)).1
    obtain ⟨m, hm⟩ : ∃ m, n - 1 = m := ⟨_, rfl⟩
    have hm2 : (n : Int) - 1 = (m : Int) := by omega
    have hz : ((n : Int) == 0) = false := by rw [beq_eq_false_iff_ne]; omega
    have hz2 : ¬ (n = 0) := by omega
    rw [hm] at hw
    rw [hm]
    clear hm
    have HM := Lib.hid hm2
    clear hm2
    go_enter Try.func28, Try.ntmps28
    go_wp2
    go_region
    go_wp2
    have hk := (H.out.drewN 1).set 2 (.int .i64 (m : Int))
    simp only [List.setIfInBounds_toArray, List.set_cons_zero, List.set_cons_succ] at hk
    have hke : Ke [b] u ((u.drewN 1).setCell ⟨b, 2, none⟩ (.int .i64 (m : Int))) := (Ke.drawn [b] u 1).set (p := ⟨b, 2, none⟩) (by simp) _
    go_ret
    exact ⟨⟨by first | rfl | (rw [decide_eq_true hq]; rfl), hk⟩, hke⟩
  · obtain rfl : n = 0 := by omega
    go_enter Try.func28, Try.ntmps28
    go_wp2
    go_ret
    exact ⟨⟨rfl, H.out⟩, Ke.refl _ _⟩
set_option maxRecDepth 100000 in
set_option maxHeartbeats 2000000 in
theorem more2_ok (u : World) (b n v : Nat) (x y : Int) (S : Value) (h : Bk u b 67 (gcl n v x y S)) (hn : v ≤ 1000000) :
    Calls Try.prog 32 #[.pointer (some ⟨b, 0, none⟩), .int .i64 2] u fun e u' => (e = .returned (.bool (decide ((v : Int) < y))) ∧ Bk u' b 67 (if (v : Int) < y then gcl (n) (v + 1) x y S else gcl n v x y S)) ∧ Ke [b] u u' := by
  have c2 : u.cell? ⟨b, 4, none⟩ = some (.int .i64 (v : Int)) := h.cell 4
  have c3 : u.cell? ⟨b, 5, none⟩ = some (.int .i64 y) := h.cell 5
  have f2 : u.frozen? ⟨b, 4, none⟩ = false := h.frozen 4
  have H := Lib.hid h
  clear h
  by_cases hq : (v : Int) < y
  · have hq2 : ¬ (y ≤ (v : Int)) := by omega
    have hw : IntKind.i64.wrap ((v : Int) + 1) = ((v + 1 : Nat) : Int) := (iwrap _ (v + 1) (by omega) (by omega)).1
    go_enter Try.func32, Try.ntmps32
    go_wp2
    go_quiet (fail)
    go_wp2
    go_region
    go_wp2
    have hk := (H.out.drewN (nq + 1)).set 4 (.int .i64 ((v : Int) + 1))
    simp only [List.setIfInBounds_toArray, List.set_cons_zero, List.set_cons_succ] at hk
    have hke : Ke [b] u ((u.drewN (nq + 1)).setCell ⟨b, 4, none⟩ (.int .i64 ((v : Int) + 1))) := (Ke.drawn [b] u (nq + 1)).set (p := ⟨b, 4, none⟩) (by simp) _
    go_ret
    refine ⟨⟨by first | rfl | (rw [decide_eq_true hq]; rfl), ?_⟩, hke⟩
    have e1 : ((v + 1 : Nat) : Int) = (v : Int) + 1 := by omega
    simp only [gcl, e1]
    exact hk
  · have HQ := Lib.hid hq
    have hqd : decide ((v : Int) < y) = false := decide_eq_false hq
    have hq2 : y ≤ (v : Int) := by omega
    go_enter Try.func32, Try.ntmps32
    go_wp2
    go_quiet (fail)
    go_wp2
    go_ret
    refine ⟨⟨by first | rfl | (rw [decide_eq_false HQ.out]; rfl), ?_⟩, Ke.drawn _ _ _⟩
    first | exact H.out.drewN _ | (rw [if_neg (by omega)]; exact H.out.drewN _)
set_option maxRecDepth 100000 in
set_option maxHeartbeats 2000000 in
theorem less2_ok (u : World) (b n v : Nat) (x y : Int) (S : Value) (h : Bk u b 67 (gcl n v x y S)) (hn : v ≤ 1000000) :
    Calls Try.prog 28 #[.pointer (some ⟨b, 0, none⟩), .int .i64 2] u fun e u' => (e = .returned (.bool (decide (0 < v))) ∧ Bk u' b 67 (gcl (n) (v - 1) x y S)) ∧ Ke [b] u u' := by
  have c2 : u.cell? ⟨b, 4, none⟩ = some (.int .i64 (v : Int)) := h.cell 4
  have f2 : u.frozen? ⟨b, 4, none⟩ = false := h.frozen 4
  have H := Lib.hid h
  clear h
  by_cases hq : 0 < v
  · have hw : IntKind.i64.wrap ((v : Int) - 1) = ((v - 1 : Nat) : Int) := (iwrap _ (v - 1) (by omega) (by omega)).1
    obtain ⟨m, hm⟩ : ∃ m, v - 1 = m := ⟨_, rfl⟩
    have hm2 : (v : Int) - 1 = (m : Int) := by omega
    have hz : ((v : Int) == 0) = false := by rw [beq_eq_false_iff_ne]; omega
    have hz2 : ¬ (v = 0) := by omega
    rw [hm] at hw
    rw [hm]
    clear hm
    have HM := Lib.hid hm2
    clear hm2
    go_enter Try.func28, Try.ntmps28
    go_wp2
    go_region
    go_wp2
    have hk := (H.out.drewN 1).set 4 (.int .i64 (m : Int))
    simp only [List.setIfInBounds_toArray, List.set_cons_zero, List.set_cons_succ] at hk
    have hke : Ke [b] u ((u.drewN 1).setCell ⟨b, 4, none⟩ (.int .i64 (m : Int))) := (Ke.drawn [b] u 1).set (p := ⟨b, 4, none⟩) (by simp) _
    go_ret
    exact ⟨⟨by first | rfl | (rw [decide_eq_true hq]; rfl), hk⟩, hke⟩
  · obtain rfl : v = 0 := by omega
    go_enter Try.func28, Try.ntmps28
    go_wp2
    go_ret
    exact ⟨⟨rfl, H.out⟩, Ke.refl _ _⟩
end Go.Proofs.Ytcplebbaiambgaa

/- syntax.In: its contract. (Written by gen_syn.py.) -/
namespace Go.Proofs.Ytcplebbaiambgaa
set_option linter.unusedVariables false
set_option maxRecDepth 100000
set_option linter.unusedSimpArgs false
open Go.RowKit

set_option maxHeartbeats 2000000 in
theorem in_ok (n : Nat) (bits : Int) (a : Nat) (w : World) (hn : n < 4294967296) (ha : a < 4294967296) :
    Calls Try.prog 44 #[.agg #[.int .u32 n, .int .i64 bits], .int .u32 a] w fun e w' => e = .returned (.bool (inB n bits a)) ∧ Below w.heap.size w w' := by
  have HS := Lib.hid (NetAt.new w n bits 51).draw
  by_cases hr : rightB n bits = true
  · have hb : 0 ≤ bits ∧ bits ≤ 32 := by
      unfold rightB at hr
      simp only [Bool.and_eq_true, decide_eq_true_eq] at hr
      exact hr.1
    obtain ⟨b, rfl⟩ := Int.eq_ofNat_of_zero_le hb.1
    have hb2 : b ≤ 32 := by omega
    have HR := Lib.hid hr
    have HI := Lib.hid (show inB n b a = decide (firstN b a = n) by unfold inB; rw [hr]; simp)
    have HE := Lib.hid (cast_eq (firstN b a) n)
    clear hr hb
    go_enter Try.func44, Try.ntmps44
    go_wp2_with fail
    try simp only [List.cons_append, List.nil_append]
    refine wp_region_held_drew (S := fun u => NetAt w.heap.size w w.heap.size n b u) (by kernel_rfl) (HS.out) (fun hHeld => ?_)
    refine take_at (some 5) (i := 0) (v := ?_) rfl rfl (by kernel_rfl) (by kernel_rfl) (by kernel_rfl) (fun _ _ _ h => h) (Or.inl ⟨by kernel_rfl, ?_⟩) hHeld ?_
    rotate_left
    · intro wz hSw; have hc0 := hSw.c0; have hc1 := hSw.c1; go_simp; try (with_reducible rfl)
    try simp only [Act.put, List.setIfInBounds_toArray, List.set_cons_zero, List.set_cons_succ, List.getElem_toArray, List.getElem_cons_succ, List.getElem_cons_zero]
    refine wpAnyH_ready (rs := [1]) (by kernel_rfl) (by simp) (AllReadyH.cons rfl (fun K hK => ?_) AllReadyH.nil)
    rw [if_pos (by kernel_rfl)]
    go_simp
    refine (netright_ok n b _ hn).mono ?_
    rintro e u ⟨rfl, hbu⟩
    rw [HR.out]
    try dsimp only
    refine hK.out _ _ (hHeld.on hHeld.b.size hbu) (fun hHeld => ?_)
    try simp only [Act.put, List.setIfInBounds_toArray, List.set_cons_zero, List.set_cons_succ, List.getElem_toArray, List.getElem_cons_succ, List.getElem_cons_zero]
    refine take_at (some 7) (i := 2) (v := ?_) rfl rfl (by kernel_rfl) (by kernel_rfl) (by kernel_rfl) (fun _ _ _ h => h) (Or.inl ⟨by kernel_rfl, ?_⟩) hHeld ?_
    rotate_left
    · intro wz hSw; have hc0 := hSw.c0; have hc1 := hSw.c1; go_simp; try (with_reducible rfl)
    try simp only [Act.put, List.setIfInBounds_toArray, List.set_cons_zero, List.set_cons_succ, List.getElem_toArray, List.getElem_cons_succ, List.getElem_cons_zero]
    refine take_at (some 8) (i := 3) (v := ?_) rfl rfl (by kernel_rfl) (by kernel_rfl) (by kernel_rfl) (fun _ _ _ h => h) (Or.inl ⟨by kernel_rfl, ?_⟩) hHeld ?_
    rotate_left
    · intro wz hSw; have hc0 := hSw.c0; have hc1 := hSw.c1; go_simp; try (with_reducible rfl)
    try simp only [Act.put, List.setIfInBounds_toArray, List.set_cons_zero, List.set_cons_succ, List.getElem_toArray, List.getElem_cons_succ, List.getElem_cons_zero]
    refine take_at (some 9) (i := 4) (v := ?_) rfl rfl (by kernel_rfl) (by kernel_rfl) (by kernel_rfl) (fun _ _ _ h => h) (Or.inl ⟨by kernel_rfl, ?_⟩) hHeld ?_
    rotate_left
    · intro wz hSw; have hc0 := hSw.c0; have hc1 := hSw.c1; go_simp; try (with_reducible rfl)
    try simp only [Act.put, List.setIfInBounds_toArray, List.set_cons_zero, List.set_cons_succ, List.getElem_toArray, List.getElem_cons_succ, List.getElem_cons_zero]
    refine take_at (some 10) (i := 5) (v := ?_) rfl rfl (by kernel_rfl) (by kernel_rfl) (by kernel_rfl) (fun _ _ _ h => h) (Or.inl ⟨by kernel_rfl, ?_⟩) hHeld ?_
    rotate_left
    · intro wz hSw; have hc0 := hSw.c0; have hc1 := hSw.c1; go_simp; try (with_reducible rfl)
    try simp only [Act.put, List.setIfInBounds_toArray, List.set_cons_zero, List.set_cons_succ, List.getElem_toArray, List.getElem_cons_succ, List.getElem_cons_zero]
    refine take_at (some 12) (i := 7) (v := ?_) rfl rfl (by kernel_rfl) (by kernel_rfl) (by kernel_rfl) (fun _ _ _ h => h) (Or.inl ⟨by kernel_rfl, ?_⟩) hHeld ?_
    rotate_left
    · intro wz hSw; have hc0 := hSw.c0; have hc1 := hSw.c1; go_simp; try (with_reducible rfl)
    try simp only [Act.put, List.setIfInBounds_toArray, List.set_cons_zero, List.set_cons_succ, List.getElem_toArray, List.getElem_cons_succ, List.getElem_cons_zero]
    refine take_at (some 13) (i := 8) (v := ?_) rfl rfl (by kernel_rfl) (by kernel_rfl) (by kernel_rfl) (fun _ _ _ h => h) (Or.inl ⟨by kernel_rfl, ?_⟩) hHeld ?_
    rotate_left
    · intro wz hSw; have hc0 := hSw.c0; have hc1 := hSw.c1; go_simp; try (with_reducible rfl)
    try simp only [Act.put, List.setIfInBounds_toArray, List.set_cons_zero, List.set_cons_succ, List.getElem_toArray, List.getElem_cons_succ, List.getElem_cons_zero]
    refine wpAnyH_ready (rs := [6]) (by kernel_rfl) (by simp) (AllReadyH.cons rfl (fun K hK => ?_) AllReadyH.nil)
    rw [if_pos (by kernel_rfl)]
    go_simp
    refine (first_ok b a _ hb2 ha).mono ?_
    rintro e u2 ⟨rfl, rfl⟩
    try dsimp only
    refine hK.out _ _ (hHeld) (fun hHeld => ?_)
    try simp only [Act.put, List.setIfInBounds_toArray, List.set_cons_zero, List.set_cons_succ, List.getElem_toArray, List.getElem_cons_succ, List.getElem_cons_zero]
    refine take_at (some 14) (i := 9) (v := ?_) rfl rfl (by kernel_rfl) (by kernel_rfl) (by kernel_rfl) (fun _ _ _ h => h) (Or.inl ⟨by kernel_rfl, ?_⟩) hHeld ?_
    rotate_left
    · intro wz hSw; have hc0 := hSw.c0; have hc1 := hSw.c1; go_simp; try (with_reducible rfl)
    try simp only [Act.put, List.setIfInBounds_toArray, List.set_cons_zero, List.set_cons_succ, List.getElem_toArray, List.getElem_cons_succ, List.getElem_cons_zero]
    refine take_at (some 15) (i := 10) (v := ?_) rfl rfl (by kernel_rfl) (by kernel_rfl) (by kernel_rfl) (fun _ _ _ h => h) (Or.inl ⟨by kernel_rfl, ?_⟩) hHeld ?_
    rotate_left
    · intro wz hSw; have hc0 := hSw.c0; have hc1 := hSw.c1; go_simp; try (with_reducible rfl)
    try simp only [Act.put, List.setIfInBounds_toArray, List.set_cons_zero, List.set_cons_succ, List.getElem_toArray, List.getElem_cons_succ, List.getElem_cons_zero]
    refine take_at (some 4) (i := 11) (v := ?_) rfl rfl (by kernel_rfl) (by kernel_rfl) (by kernel_rfl) (fun _ _ _ h => h) (Or.inl ⟨by kernel_rfl, ?_⟩) hHeld ?_
    rotate_left
    · intro wz hSw; have hc0 := hSw.c0; have hc1 := hSw.c1; go_simp; try (with_reducible rfl)
    try simp only [Act.put, List.setIfInBounds_toArray, List.set_cons_zero, List.set_cons_succ, List.getElem_toArray, List.getElem_cons_succ, List.getElem_cons_zero]
    refine wpAnyH_done (by kernel_rfl) ?_ _
    go_wp2
    go_ret
    exact ⟨by rw [HI.out, ← HE.out]; rfl, hHeld.b⟩
  · have hr2 : rightB n bits = false := by simpa using hr
    have HR := Lib.hid hr2
    have HI := Lib.hid (show inB n bits a = false by unfold inB; rw [hr2]; rfl)
    clear hr hr2
    go_enter Try.func44, Try.ntmps44
    go_wp2_with fail
    try simp only [List.cons_append, List.nil_append]
    refine wp_region_held_drew (S := fun u => NetAt w.heap.size w w.heap.size n bits u) (by kernel_rfl) (HS.out) (fun hHeld => ?_)
    refine take_at (some 5) (i := 0) (v := ?_) rfl rfl (by kernel_rfl) (by kernel_rfl) (by kernel_rfl) (fun _ _ _ h => h) (Or.inl ⟨by kernel_rfl, ?_⟩) hHeld ?_
    rotate_left
    · intro wz hSw; have hc0 := hSw.c0; have hc1 := hSw.c1; go_simp; try (with_reducible rfl)
    try simp only [Act.put, List.setIfInBounds_toArray, List.set_cons_zero, List.set_cons_succ, List.getElem_toArray, List.getElem_cons_succ, List.getElem_cons_zero]
    refine wpAnyH_ready (rs := [1]) (by kernel_rfl) (by simp) (AllReadyH.cons rfl (fun K hK => ?_) AllReadyH.nil)
    rw [if_pos (by kernel_rfl)]
    go_simp
    refine (netright_ok n bits _ hn).mono ?_
    rintro e u ⟨rfl, hbu⟩
    rw [HR.out]
    try dsimp only
    refine hK.out _ _ (hHeld.on hHeld.b.size hbu) (fun hHeld => ?_)
    try simp only [Act.put, List.setIfInBounds_toArray, List.set_cons_zero, List.set_cons_succ, List.getElem_toArray, List.getElem_cons_succ, List.getElem_cons_zero]
    refine take_at (some 7) (i := 2) (v := ?_) rfl rfl (by kernel_rfl) (by kernel_rfl) (by kernel_rfl) (fun _ _ _ h => h) (Or.inl ⟨by kernel_rfl, ?_⟩) hHeld ?_
    rotate_left
    · intro wz hSw; have hc0 := hSw.c0; have hc1 := hSw.c1; go_simp; try (with_reducible rfl)
    try simp only [Act.put, List.setIfInBounds_toArray, List.set_cons_zero, List.set_cons_succ, List.getElem_toArray, List.getElem_cons_succ, List.getElem_cons_zero]
    refine wpAnyH_take (i := 3) (v := undef) rfl (by kernel_rfl) (by kernel_rfl) (by kernel_rfl) (fun _ _ _ h => h) (Or.inr ⟨by kernel_rfl, rfl⟩) hHeld ?_
    try simp only [Act.put, List.setIfInBounds_toArray, List.set_cons_zero, List.set_cons_succ, List.getElem_toArray, List.getElem_cons_succ, List.getElem_cons_zero]
    refine wpAnyH_take (i := 4) (v := undef) rfl (by kernel_rfl) (by kernel_rfl) (by kernel_rfl) (fun _ _ _ h => h) (Or.inr ⟨by kernel_rfl, rfl⟩) hHeld ?_
    try simp only [Act.put, List.setIfInBounds_toArray, List.set_cons_zero, List.set_cons_succ, List.getElem_toArray, List.getElem_cons_succ, List.getElem_cons_zero]
    refine wpAnyH_take (i := 5) (v := undef) rfl (by kernel_rfl) (by kernel_rfl) (by kernel_rfl) (fun _ _ _ h => h) (Or.inr ⟨by kernel_rfl, rfl⟩) hHeld ?_
    try simp only [Act.put, List.setIfInBounds_toArray, List.set_cons_zero, List.set_cons_succ, List.getElem_toArray, List.getElem_cons_succ, List.getElem_cons_zero]
    refine wpAnyH_take (i := 6) (v := undef) rfl (by kernel_rfl) (by kernel_rfl) (by kernel_rfl) (fun _ _ _ h => h) (Or.inr ⟨by kernel_rfl, rfl⟩) hHeld ?_
    try simp only [Act.put, List.setIfInBounds_toArray, List.set_cons_zero, List.set_cons_succ, List.getElem_toArray, List.getElem_cons_succ, List.getElem_cons_zero]
    refine wpAnyH_take (i := 7) (v := undef) rfl (by kernel_rfl) (by kernel_rfl) (by kernel_rfl) (fun _ _ _ h => h) (Or.inr ⟨by kernel_rfl, rfl⟩) hHeld ?_
    try simp only [Act.put, List.setIfInBounds_toArray, List.set_cons_zero, List.set_cons_succ, List.getElem_toArray, List.getElem_cons_succ, List.getElem_cons_zero]
    refine wpAnyH_take (i := 8) (v := undef) rfl (by kernel_rfl) (by kernel_rfl) (by kernel_rfl) (fun _ _ _ h => h) (Or.inr ⟨by kernel_rfl, rfl⟩) hHeld ?_
    try simp only [Act.put, List.setIfInBounds_toArray, List.set_cons_zero, List.set_cons_succ, List.getElem_toArray, List.getElem_cons_succ, List.getElem_cons_zero]
    refine wpAnyH_take (i := 9) (v := undef) rfl (by kernel_rfl) (by kernel_rfl) (by kernel_rfl) (fun _ _ _ h => h) (Or.inr ⟨by kernel_rfl, rfl⟩) hHeld ?_
    try simp only [Act.put, List.setIfInBounds_toArray, List.set_cons_zero, List.set_cons_succ, List.getElem_toArray, List.getElem_cons_succ, List.getElem_cons_zero]
    refine take_at (some 15) (i := 10) (v := ?_) rfl rfl (by kernel_rfl) (by kernel_rfl) (by kernel_rfl) (fun _ _ _ h => h) (Or.inl ⟨by kernel_rfl, ?_⟩) hHeld ?_
    rotate_left
    · intro wz hSw; have hc0 := hSw.c0; have hc1 := hSw.c1; go_simp; try (with_reducible rfl)
    try simp only [Act.put, List.setIfInBounds_toArray, List.set_cons_zero, List.set_cons_succ, List.getElem_toArray, List.getElem_cons_succ, List.getElem_cons_zero]
    refine take_at (some 4) (i := 11) (v := ?_) rfl rfl (by kernel_rfl) (by kernel_rfl) (by kernel_rfl) (fun _ _ _ h => h) (Or.inl ⟨by kernel_rfl, ?_⟩) hHeld ?_
    rotate_left
    · intro wz hSw; have hc0 := hSw.c0; have hc1 := hSw.c1; go_simp; try (with_reducible rfl)
    try simp only [Act.put, List.setIfInBounds_toArray, List.set_cons_zero, List.set_cons_succ, List.getElem_toArray, List.getElem_cons_succ, List.getElem_cons_zero]
    refine wpAnyH_done (by kernel_rfl) ?_ _
    go_wp2
    go_ret
    exact ⟨by rw [HI.out]; rfl, hHeld.b⟩
end Go.Proofs.Ytcplebbaiambgaa

/- Who is admitted: the closure, slices.IndexFunc, slices.ContainsFunc: their contracts. -/
namespace Go.Proofs.Ytcplebbaiambgaa
set_option linter.unusedVariables false
set_option maxRecDepth 100000
set_option linter.unusedSimpArgs false
open Go.RowKit

def netsB (l : List Nt) (a : Nat) : Bool := l.any fun n => inB n.addr n.bits a
theorem netsB_drop (l : List Nt) (i a : Nat) (x : Nt) (h : l[i]? = some x) : netsB (l.drop i) a = (inB x.addr x.bits a || netsB (l.drop (i + 1)) a) := by
  obtain ⟨hi, e⟩ := List.getElem?_eq_some_iff.1 h
  rw [List.drop_eq_getElem_cons hi, e]
  rfl
set_option maxRecDepth 100000 in
set_option maxHeartbeats 1000000 in
theorem adm1_ok (n : Nat) (bits : Int) (p a : Nat) (u : World) (hn : n < 4294967296) (ha : a < 4294967296) (cp : u.cell? ⟨p, 0, none⟩ = some (.int .u32 (a : Int))) (hp : p < u.heap.size) :
    Calls Try.prog 43 #[.agg #[.int .u32 (n : Int), .int .i64 bits], .pointer (some ⟨p, 0, none⟩)] u fun e u' => e = .returned (.bool (inB n bits a)) ∧ Below u.heap.size u u' := by
  have HI := Lib.hid (fun w => in_ok n bits a w hn ha)
  have c1 : (u.alloc (.cells #[.int .u32 (n : Int), .int .i64 bits] 51)).cell? ⟨p, 0, none⟩ = some (.int .u32 (a : Int)) := ((Below.refl u.heap.size u).alloc (Nat.le_refl _) _).cell (p := ⟨p, 0, none⟩) hp |>.trans cp
  have HL := Lib.hid (show Below u.heap.size u (u.alloc (.cells #[.int .u32 (n : Int), .int .i64 bits] 51)) from (Below.refl u.heap.size u).alloc (Nat.le_refl _) _)
  go_enter Try.func43, Try.ntmps43
  go_wp2_with (go_at_call 44; (with_reducible refine (HI.out _).mono ?_); rintro e u2 ⟨rfl, hb⟩; have H2 := Lib.hid (HL.out.trans (hb.mono HL.out.size)); clear hb)
  go_ret
  exact ⟨rfl, H2.out⟩

/-- What IndexFunc tells: no less than 0, just if there is one. -/
def IxP (g : Bool) (u : World) (e : Ending) (u' : World) : Prop := ∃ k : Int, e = .returned (.int .i64 k) ∧ decide (0 ≤ k) = g ∧ Below u.heap.size u u'
abbrev adF (p : Nat) : Value := .func (.func 43) #[] #[.pointer (some ⟨p, 0, none⟩)]
set_option maxRecDepth 100000 in
set_option maxHeartbeats 2000000 in
theorem index_ok (A : Option Addr) (l : List Nt) (n c p a : Nat) (w : World) (h : RN w A l) (hn : l.length = n) (hf : n ≤ 1099511627776) (hl : ∀ x ∈ l, x.addr < 4294967296) (ha : a < 4294967296) (cp : w.cell? ⟨p, 0, none⟩ = some (.int .u32 (a : Int))) (hp : p < w.heap.size) :
    Calls Try.prog 56 #[.slice A n c, adF p] w (IxP (netsB l a) w) := by
  have HR := Lib.hid h
  have HN := Lib.hid hn
  have HL := Lib.hid hl
  have HC := Lib.hid (show ∀ u, Below w.heap.size w u → ∀ (m : Nat) (bits : Int), m < 4294967296 → Calls Try.prog 43 #[.agg #[.int .u32 (m : Int), .int .i64 bits], .pointer (some ⟨p, 0, none⟩)] u fun e u' => e = .returned (.bool (inB m bits a)) ∧ Below u.heap.size u u' from fun u hu m bits hm => adm1_ok m bits p a u hm ha ((hu.cell (p := ⟨p, 0, none⟩) hp).trans cp) (Nat.lt_of_lt_of_le hp hu.size))
  obtain ⟨R, hR⟩ : ∃ R, netsB l a = R := ⟨_, rfl⟩
  rw [hR]
  have HA := Lib.hid hR
  clear h hn hl cp hR
  go_enter Try.func56, Try.ntmps56
  go_wp2
  go_loopw [8] (fun v8 wr => ∃ (i : Nat), i ≤ n ∧ v8 = .int .i64 (i : Int) ∧ Hid (R = netsB (l.drop i) a) ∧ Hid (Below w.heap.size w wr)) (fun v8 _ => n - (intOf v8).toNat)
  case atStart => exact ⟨0, by omega, rfl, Lib.hid (by rw [List.drop_zero]; exact HA.out.symm), Lib.hid (Below.refl _ _)⟩
  case round =>
    obtain ⟨i, hi, rfl, HD, HB⟩ := hrel
    by_cases hi1 : i < n
    · have hi2 : (i : Int) < (n : Int) := by omega
      obtain ⟨b, o, x, rfl, hx, hc⟩ := HR.out.at2 i (by rw [HN.out]; exact hi1)
      obtain ⟨c0, c1⟩ := hc wr HB.out
      have HST := Lib.hid (netsB_drop l i a x hx)
      have HX := Lib.hid (HL.out x (List.mem_of_getElem? hx))
      obtain ⟨xa, xb⟩ := x
      dsimp only at HST c0 c1 HX
      have HC2 := Lib.hid (HC.out wr HB.out xa xb HX.out)
      obtain ⟨q, hq⟩ : ∃ q, inB xa xb a = q := ⟨_, rfl⟩
      rw [hq] at HST HC2
      clear hc hx hq
      cases q with
      | false =>
        go_wp2_with (go_at_call 43; refine HC2.out.mono ?_; rintro e u2 ⟨rfl, hb2⟩)
        go_roundw
        case rel => exact ⟨i + 1, by omega, by go_num, Lib.hid (by rw [HD.out, HST.out]; rfl), Lib.hid (HB.out.trans (hb2.mono HB.out.size))⟩
        case measure => simp [intOf]; omega
      | true =>
        go_wp2_with (go_at_call 43; refine HC2.out.mono ?_; rintro e u2 ⟨rfl, hb2⟩)
        go_ret
        exact ⟨i, rfl, by rw [HD.out, HST.out]; simp, HB.out.trans (hb2.mono HB.out.size)⟩
    · have hi2 : ¬ (i : Int) < (n : Int) := by omega
      go_wp2
      go_ret
      exact ⟨-1, rfl, by rw [HD.out, List.drop_eq_nil_of_le (by rw [HN.out]; omega)]; rfl, HB.out⟩
set_option maxRecDepth 100000 in
set_option maxHeartbeats 1000000 in
theorem contains_ok (A : Option Addr) (l : List Nt) (n c p a : Nat) (w : World) (h : RN w A l) (hn : l.length = n) (hf : n ≤ 1099511627776) (hl : ∀ x ∈ l, x.addr < 4294967296) (ha : a < 4294967296) (cp : w.cell? ⟨p, 0, none⟩ = some (.int .u32 (a : Int))) (hp : p < w.heap.size) :
    Calls Try.prog 42 #[.slice A n c, adF p] w fun e u' => e = .returned (.bool (netsB l a)) ∧ Below w.heap.size w u' := by
  have HI := Lib.hid (index_ok A l n c p a w h hn hf hl ha cp hp)
  obtain ⟨R, hR⟩ : ∃ R, netsB l a = R := ⟨_, rfl⟩
  rw [hR] at HI ⊢
  clear h hn hl cp hR
  go_enter Try.func42, Try.ntmps42
  go_wp2_with (go_at_call 56; refine HI.out.mono ?_; rintro e u2 ⟨k, rfl, hk, hb⟩; have HK := Lib.hid hk; have HB := Lib.hid hb; clear hk hb)
  go_ret
  exact ⟨by rw [← HK.out]; rfl, HB.out⟩
end Go.Proofs.Ytcplebbaiambgaa

/- Gates: what the document asks, as Lean functions: who is admitted, how many one has. -/
namespace Go.Proofs.Ytcplebbaiambgaa
set_option linter.unusedVariables false
set_option maxRecDepth 100000
set_option linter.unusedSimpArgs false
open Go.RowKit

/-- The tenant of that name. -/
def gtF (tn : List Tn) (s : ByteArray) : Option Tn := tn.find? fun t => nmEq t.name s
theorem gtF_tens (s : ByteArray) (l : List Tv) : (fT s l).map (·.t) = gtF (l.map (·.t)) s := by
  unfold fT gtF
  rw [List.find?_map]
  rfl
theorem gtF_name {tn : List Tn} {s : ByteArray} {t : Tn} (h : gtF tn s = some t) : t.name = s ∧ t ∈ tn := by
  unfold gtF at h
  have h1 := List.find?_some h
  exact ⟨nmEq_iff.1 h1, List.mem_of_find?_eq_some h⟩
/-- Is that something that tenants have some of? -/
def cnB (k : Int) : Bool := decide (k = 1) || decide (k = 2)
theorem cnB_iff {k : Int} : cnB k = true ↔ k = 1 ∨ k = 2 := by simp [cnB]
def mxT (t : Tn) (k : Int) : Nat := if k = 1 then t.names.toNat else if k = 2 then t.visitors.toNat else 0
def mxO (o : Option Tn) (k : Int) : Nat := match o with
  | none => 0
  | some t => mxT t k
/-- How many each has of what. -/
abbrev Us := ByteArray → Int → Nat
def U0 : Us := fun _ _ => 0
def stU (U : Us) (s : ByteArray) (k : Int) (n : Nat) : Us := fun a j => if nmEq a s = true ∧ j = k then n else U a j
theorem stU_same (U : Us) (s : ByteArray) (k : Int) (n : Nat) : stU U s k n s k = n := by unfold stU; rw [if_pos ⟨nmEq_iff.2 rfl, rfl⟩]
theorem stU_name {U : Us} {s a : ByteArray} {k j : Int} {n : Nat} (h : a ≠ s) : stU U s k n a j = U a j := by
  unfold stU
  rw [if_neg]
  rintro ⟨h1, _⟩
  exact h (nmEq_iff.1 h1)
theorem stU_kind {U : Us} {s a : ByteArray} {k j : Int} {n : Nat} (h : j ≠ k) : stU U s k n a j = U a j := by
  unfold stU
  rw [if_neg]
  rintro ⟨_, h1⟩
  exact h h1
theorem stU_self (U : Us) (s : ByteArray) (k : Int) : stU U s k (U s k) = U := by
  funext a j
  unfold stU
  split
  · rename_i h
    rw [nmEq_iff.1 h.1, h.2]
  · rfl
/-- What Take says: o is the tenant, n how many it has. -/
def tkI (o : Option Tn) (n : Nat) (k : Int) : Int := if cnB k = false then 1 else match o with
  | none => 3
  | some t => if mxT t k ≤ n then 112 else 0
def tkU (o : Option Tn) (U : Us) (s : ByteArray) (k : Int) : Us := if tkI o (U s k) k = 0 then stU U s k (U s k + 1) else U
def gvU (U : Us) (s : ByteArray) (k : Int) : Us := stU U s k (U s k - 1)
def gvB (U : Us) (s : ByteArray) (k : Int) : Bool := decide (0 < U s k)
/-- What Admit says. -/
def adI (o : Option Tn) (a : Nat) : Int := match o with
  | none => 3
  | some t => if t.nets = [] ∨ netsB t.nets a = true then 0 else 111
/-- Nobody has more than may be. -/
def LimU (tn : List Tn) (U : Us) : Prop := ∀ s k, U s k ≤ mxO (gtF tn s) k
theorem LimU.start (tn : List Tn) : LimU tn U0 := fun _ _ => Nat.zero_le _
theorem tkI_ok {o : Option Tn} {n : Nat} {k : Int} (h : tkI o n k = 0) : cnB k = true ∧ ∃ t, o = some t ∧ n < mxT t k := by
  unfold tkI at h
  split at h
  · cases h
  · rename_i hc
    refine ⟨by simpa using hc, ?_⟩
    cases o with
    | none => cases h
    | some t =>
      dsimp only at h
      split at h
      · cases h
      · exact ⟨t, rfl, by omega⟩
theorem tkI_some {t : Tn} {n : Nat} {k : Int} (hc : cnB k = true) : tkI (some t) n k = if mxT t k ≤ n then 112 else 0 := by
  unfold tkI; rw [hc]; rfl
theorem tkI_none {n : Nat} {k : Int} (hc : cnB k = true) : tkI none n k = 3 := by unfold tkI; rw [hc]; rfl
theorem tkI_not {o : Option Tn} {n : Nat} {k : Int} (hc : cnB k = false) : tkI o n k = 1 := by unfold tkI; rw [if_pos hc]
theorem LimU.take {tn : List Tn} {U : Us} (h : LimU tn U) (s : ByteArray) (k : Int) : LimU tn (tkU (gtF tn s) U s k) := by
  unfold tkU
  split
  · rename_i hq
    obtain ⟨_, t, ht, hlt⟩ := tkI_ok hq
    intro a j
    unfold stU
    split
    · rename_i he
      rw [nmEq_iff.1 he.1, he.2, ht]
      show U s k + 1 ≤ mxT t k
      omega
    · exact h a j
  · exact h
theorem LimU.give {tn : List Tn} {U : Us} (h : LimU tn U) (s : ByteArray) (k : Int) : LimU tn (gvU U s k) := by
  intro a j
  unfold gvU stU
  split
  · rename_i he
    rw [nmEq_iff.1 he.1, he.2]
    have := h s k
    omega
  · exact h a j
theorem LimU.none_ {tn : List Tn} {U : Us} (h : LimU tn U) {s : ByteArray} (hs : gtF tn s = none) (k : Int) : U s k = 0 := by
  have := h s k
  rw [hs] at this
  exact Nat.le_zero.1 this
theorem mxT_not {t : Tn} {k : Int} (h : cnB k = false) : mxT t k = 0 := by
  unfold cnB at h
  simp only [Bool.or_eq_false_iff, decide_eq_false_iff_not] at h
  unfold mxT
  rw [if_neg h.1, if_neg h.2]
theorem LimU.not_ {tn : List Tn} {U : Us} (h : LimU tn U) (s : ByteArray) {k : Int} (hk : cnB k = false) : U s k = 0 := by
  have := h s k
  cases hq : gtF tn s with
  | none => exact h.none_ hq k
  | some t =>
    rw [hq] at this
    have h2 : U s k ≤ mxT t k := this
    rw [mxT_not hk] at h2
    omega
theorem gvU_zero {U : Us} {s : ByteArray} {k : Int} (h : U s k = 0) : gvU U s k = U := by
  unfold gvU
  have : U s k - 1 = U s k := by omega
  rw [this, stU_self]
end Go.Proofs.Ytcplebbaiambgaa

/- A map from texts to tenants of a gate (pointers, by their blocks' numbers). -/
namespace Go.Proofs.Ytcplebbaiambgaa
set_option linter.unusedVariables false
set_option maxRecDepth 100000
set_option linter.unusedSimpArgs false
open Go.RowKit Go.Maps

abbrev gptr (b : Nat) : Value := .pointer (some ⟨b, 0, none⟩)
/-- How a pointer in the map reads: by its block's number. -/
def gRP : Value → Option (DataW Unit × List MemPlace)
  | .pointer none => some (.nil, [])
  | .pointer (some ⟨b, 0, none⟩) => some (.lit (.int .u64 (b : Int)), [])
  | _ => none
theorem gRP_nil : gRP (.pointer none) = some (.nil, []) := rfl
theorem gRP_ptr (b : Nat) : gRP (gptr b) = some (.lit (.int .u64 (b : Int)), []) := rfl
theorem gRP_inv {v : Value} {b : Nat} {ps : List MemPlace} (h : gRP v = some (.lit (.int .u64 (b : Int)), ps)) : v = gptr b := by
  unfold gRP at h
  split at h
  · simp at h
  · simp at h
    obtain ⟨h, _⟩ := h
    have : (_ : Nat) = b := Int.ofNat.inj h
    subst this; rfl
  · cases h
theorem gRP_inv_nil {v : Value} {ps : List MemPlace} (h : gRP v = some (.nil, ps)) : v = .pointer none := by
  unfold gRP at h
  split at h
  · rfl
  · simp at h
  · cases h
theorem glaw : Keyed Try.prog 9 := string_keyed Try.underlying9
theorem gzero (w : World) : (zeroValue 60).run Try.prog w = .ok (.pointer none) w := by kernel_rfl
theorem gkey {s : ByteArray} (h : s.size ≤ 140737488355328) : keyOf Try.prog 9 (.string s) = some (.string s.data.toList) := by
  unfold keyOf
  simp only [Try.underlying9]
  simp [mapKey]
  all_goals (try (unfold maxLen; omega))
theorem gkey_ne {a b : ByteArray} (h : a ≠ b) : (Lit.string a.data.toList) ≠ (Lit.string b.data.toList) := fun e => h (by
  injection e with e
  apply ByteArray.ext
  exact Array.toList_inj.1 e)

/-- At mb lies the map of those names to those blocks. -/
structure Mg (u : World) (mb : Nat) (l : List (ByteArray × Nat)) : Prop where
  few : l.length ≤ 1025
  ids : l.Pairwise (fun x y => x.1 ≠ y.1)
  wf : ∀ x ∈ l, x.1.size ≤ 140737488355328
  ex : ∃ D, u.ownsMap Try.prog 9 gRP mb l.length D ∧ (∀ k : ByteArray, (∃ x ∈ l, x.1 = k) ↔ Maps.has D (.string k.data.toList) = true) ∧ ∀ x ∈ l, D.atKey (.string x.1.data.toList) .nil = .lit (.int .u64 (x.2 : Int))
theorem Mg.lt {u : World} {mb : Nat} {l : List (ByteArray × Nat)} (h : Mg u mb l) : mb < u.heap.size := by
  obtain ⟨_, _, _, D, h3, _⟩ := h
  exact h3.lt
theorem Mg.block {u : World} {mb : Nat} {l : List (ByteArray × Nat)} (h : Mg u mb l) : ∃ es ck, u.heap[mb]? = some (.map es ck) := by
  obtain ⟨_, _, _, D, ⟨es, clock, hb, _⟩, _⟩ := h
  exact ⟨es, clock, hb⟩
theorem Mg.ke {u u' : World} {mb : Nat} {l : List (ByteArray × Nat)} {L : List Nat} (h : Mg u mb l) (k : Ke L u u') (hm : mb ∉ L) : Mg u' mb l := by
  obtain ⟨h0, h1, h2, D, ⟨es, clock, hb, r⟩, h4⟩ := h
  exact ⟨h0, h1, h2, D, ⟨es, clock, (k.block mb (lt_of_block hb) hm).trans hb, r⟩, h4⟩
theorem gturned_ke {w w' : World} {b : Nat} (h : w.mapTurned w' b) : Ke [b] w w' := by
  have g := h.grown
  exact ⟨g.os, g.tape, g.output, g.size, fun k hk hn => g.block k hk (fun e => hn (by injection e with e; simp [e]))⟩
theorem Mg.hit {u : World} {mb : Nat} {l : List (ByteArray × Nat)} (h : Mg u mb l) {s : ByteArray} {b : Nat} (hx : (s, b) ∈ l) :
    (Instr.lookup 57 (.map (some mb)) (.string s) true).run Try.prog u = .ok (.tuple #[gptr b, .bool true]) u := by
  obtain ⟨h0, h1, h2, D, h3, h5, h6⟩ := h
  obtain ⟨v, ps, hr, hv⟩ := h3.look_ok glaw Try.underlying57 (gzero u) gRP_nil (gkey (h2 _ hx))
  rw [h6 _ hx] at hv
  have e := gRP_inv hv
  subst e
  rw [hr, (h5 s).1 ⟨_, hx, rfl⟩]
theorem Mg.miss {u : World} {mb : Nat} {l : List (ByteArray × Nat)} (h : Mg u mb l) {s : ByteArray} (hk : s.size ≤ 140737488355328) (hn : ∀ x ∈ l, x.1 ≠ s) :
    (Instr.lookup 57 (.map (some mb)) (.string s) true).run Try.prog u = .ok (.tuple #[.pointer none, .bool false]) u := by
  obtain ⟨h0, h1, h2, D, h3, h5, h6⟩ := h
  obtain ⟨v, ps, hr, hv⟩ := h3.look_ok glaw Try.underlying57 (gzero u) gRP_nil (gkey hk)
  have hf : Maps.has D (.string s.data.toList) = false := by
    cases hh : Maps.has D (.string s.data.toList)
    · rfl
    · obtain ⟨x, hx, e⟩ := (h5 s).2 hh
      exact absurd e (hn x hx)
  rw [atKey_of_not_has hf] at hv
  have e := gRP_inv_nil hv
  subst e
  rw [hr, hf]
theorem Mg.store {u : World} {mb : Nat} {l : List (ByteArray × Nat)} (h : Mg u mb l) (hl : l.length ≤ 1024) (s : ByteArray) (b : Nat) (hk : s.size ≤ 140737488355328) (hn : ∀ y ∈ l, y.1 ≠ s) :
    ∃ w', (Instr.mapUpdate 57 (.map (some mb)) (.string s) (gptr b)).run Try.prog u = .ok () w' ∧ Mg w' mb ((s, b) :: l) ∧ Ke [mb] u w' := by
  obtain ⟨h0, h1, h2, D, h3, h5, h6⟩ := h
  obtain ⟨w', hr, h7, h8⟩ := h3.store glaw Try.underlying57 (by unfold maxLen; omega) (gkey hk) (gRP_ptr b)
  refine ⟨w', hr, ⟨by simp; omega, List.pairwise_cons.2 ⟨fun y hy => (hn y hy).symm, h1⟩, fun y hy => ?_, D.put (.string s.data.toList) (.lit (.int .u64 (b : Int))), h7, fun k => ?_, fun y hy => ?_⟩, gturned_ke h8⟩
  · rcases List.mem_cons.1 hy with rfl | hy
    · exact hk
    · exact h2 y hy
  · by_cases e : k = s
    · subst e
      rw [has_put_same h3.isMap (by trivial)]
      simp
    · rw [has_put_other (gkey_ne e), ← h5 k]
      simp only [List.mem_cons]
      constructor
      · rintro ⟨y, rfl | hy, e1⟩
        · exact absurd e1.symm e
        · exact ⟨y, hy, e1⟩
      · rintro ⟨y, hy, e1⟩
        exact ⟨y, .inr hy, e1⟩
  · rcases List.mem_cons.1 hy with rfl | hy
    · exact atKey_put_same h3.isMap (by trivial) _ _
    · rw [atKey_put_other (gkey_ne (hn y hy))]
      exact h6 y hy
/-- A new one. -/
theorem Mg.made (w : World) : Mg (w.alloc (.map #[] 0)) w.heap.size [] :=
  ⟨by simp, .nil, (fun _ h => by cases h), ⟨DataW.map [], World.ownsMap_made _ _ _ _, (fun k => by simp [Maps.has]), (fun x h => by cases h)⟩⟩
/-- The store, as one operation. -/
theorem op_gstore {o : Oper} {a : Act} {K : Act → World → Prop} {Q : Exit → Act → World → Prop} {w : World} (m x v : Operand) (hop : o.op = Op.mapUpdate 57 m x v)
    (mb : Nat) (l : List (ByteArray × Nat)) (s : ByteArray) (b : Nat) (hm : a.eval m = .map (some mb)) (hx : a.eval x = .string s) (hv : a.eval v = gptr b) (h : Mg w mb l) (hl : l.length ≤ 1024) (hs : s.size ≤ 140737488355328) (hn : ∀ y ∈ l, y.1 ≠ s)
    (hK : ∀ w', Mg w' mb ((s, b) :: l) → Ke [mb] w w' → K (a.put o.dst undef) w') : o.wp Try.prog a w K Q := by
  obtain ⟨w', hrun, r1, r2⟩ := h.store hl s b hs hn
  unfold Oper.wp
  simp [execOp, hop, hm, hx, hv, hrun, Result.andThen]
  exact hK w' r1 r2
end Go.Proofs.Ytcplebbaiambgaa
