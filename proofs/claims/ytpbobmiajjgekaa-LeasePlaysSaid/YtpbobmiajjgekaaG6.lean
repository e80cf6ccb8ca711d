/- Iw, Lib1, Ke, LsMap, CgR: texts of this seat, one behind the other. -/
import Derived.Test.YtpbobmiajjgekaaG1
import Derived.Test.YtpbobmiajjgekaaG5
import Derived.Laws.CopyOwn
import Derived.Maps.OwnSet
import Derived.Sort.KeysCollected
import Derived.Sort.Walk0
import Derived.Test.YtpbobmiajjgekaaG3
import Derived.Test.YtpbobmiajjgekaaRows
/- A number that lies in its range. -/
namespace Go.Proofs.Ytpbobmiajjgekaa
set_option linter.unusedVariables false
set_option maxRecDepth 100000
set_option linter.unusedSimpArgs false
open Go.RowKit
theorem iwrap (x : Int) (n : Nat) (h : x = (n : Int)) (hn : n ≤ 9223372036854775807) : IntKind.i64.wrap x = (n : Int) ∧ wrap64 x = (n : Int) := by
  subst h
  constructor
  · rw [IntKind.wrap_i64]; omega
  · unfold wrap64; omega
end Go.Proofs.Ytpbobmiajjgekaa

/- Small words for walks over slices of bytes. -/
namespace Go.Proofs.Ytpbobmiajjgekaa
set_option linter.unusedVariables false
set_option maxRecDepth 100000
set_option linter.unusedSimpArgs false
open Go.RowKit

theorem Rb.on {u u' : World} {A : Option Addr} {l : List UInt8} (h : Rb u u.heap.size A l) (hb : Below u.heap.size u u') : Rb u' u'.heap.size A l := (h.below hb (Nat.le_refl _)).more hb.size
/-- b[:hi]. -/
theorem slice_to (A : Option Addr) (n c hi : Nat) (h : hi ≤ n) (hc : n ≤ c) (u : World) : (Instr.sliceAt 79 (.slice A n c) none (some (.int .i64 (hi : Int))) none).run Try.prog u = .ok (.slice A hi c) u := by
  have h1 : (hi : Int) ≤ (n : Int) := by omega
  have h2 : (hi : Int) ≤ (c : Int) := by omega
  go_simp
/-- string(b), where an operation's guard is met, in a region that draws nothing. -/
theorem wpList_conv {P : Program} {ops : Array Oper} {Q : Exit → Act → World → Prop} {a : Act} {w : World} {rest : List Oper} {o : Oper} (hw : Region.wanted o (yielded ops a.tmps) = true) (src e dst : TypeId) (x : Operand) (ho : o.op = .convert src dst x)
    (A : Option Addr) (n c : Nat) (l : List UInt8) (hx : a.eval x = .slice A n c) (hn : l.length = n) {B : Nat} (hR : Rb w B A l) (hs : P.underlying src = some (.slice e)) (he : P.underlying e = some (.int .u8)) (hd : P.underlying dst = some .string)
    (h : wpList P ops Q rest (a.put o.dst (.string (bs l))) w) : wpList P ops Q (o :: rest) a w :=
  wpList_wanted hw fun K hK => by
    have h1 := str_of (P := P) hR src e dst hs he hd n c hn
    unfold Oper.wp execOp
    simp only [ho, hx, Sem.run_bind, h1, Result.andThen_ok, Sem.run_pure]
    exact hK _ _ h
/-- b[lo:lo + many]. -/
theorem slice_mid (A : Option Addr) (n c k q : Nat) (h : k + q ≤ n) (hc : n ≤ c) (u : World) : (Instr.sliceAt 79 (.slice A n c) (some (.int .i64 (k : Int))) (some (.int .i64 ((k : Int) + (q : Int)))) none).run Try.prog u = .ok (.slice (tailA A c k) q (c - k)) u := by
  have e : (k : Int) + (q : Int) = ((k + q : Nat) : Int) := by omega
  have h1 : (k : Int) ≤ ((k + q : Nat) : Int) := by omega
  have h2 : ((k + q : Nat) : Int) ≤ (c : Int) := by omega
  have e2 : k + q - k = q := by omega
  rw [e]
  generalize hj : k + q = j at h1 h2 e2 ⊢
  unfold tailA
  go_simp
/-- b[lo:hi] in a region that draws nothing. -/
theorem wpList_two {P : Program} {ops : Array Oper} {rest : List Oper} {o : Oper} {a : Act} {Q : Exit → Act → World → Prop} {w : World} (hgd : o.guard = none) (t : TypeId) (x lo hi : Operand) (ho : o.op = .slice t x (some lo) (some hi) none) (vx vl vh v : Value) (hx : a.eval x = vx) (hl : a.eval lo = vl) (hh : a.eval hi = vh)
    (hr : (Instr.sliceAt t vx (some vl) (some vh) none).run P w = .ok v w) (h : wpList P ops Q rest (a.put o.dst v) w) : wpList P ops Q (o :: rest) a w :=
  wpList_plain hgd fun _ hK => by
    unfold Oper.wp execOp
    simp only [ho, Option.map_some, Option.map_none, hx, hl, hh, Sem.run_bind, hr, Result.andThen_ok, Sem.run_pure]
    exact hK _ _ h
/-- append of bytes, the new length being the sum. -/
theorem wp_app_n {P : Program} {ops : Array Oper} {rest : List Oper} {o : Oper} {a : Act} {Q : Exit → Act → World → Prop} {w : World} (hgd : o.guard = none) (s x : Operand) (t e : TypeId)
    (ho : o.op = .call { callee := .builtin .append, args := #[s, x], argTypes := #[t, t] }) (ht : P.underlying t = some (.slice e))
    (hi : (P.info? e).map (fun i => (i.zero, i.size, i.bytes)) = some (some (.int .u8 0), 1, 1)) (B : Nat) (l : List UInt8) (A : Option Addr) (n c : Nat) (hs : a.eval s = .slice A n c) (hn : l.length = n) (hown : OB w B e A c l)
    (k : List UInt8) (A' : Option Addr) (m c' B' : Nat) (hx : a.eval x = .slice A' m c') (hm : k.length = m) (hnil : A' = none → m = 0 ∧ c' = 0) (hR : Rb w B' A' k)
    (hlen : n + m ≤ 140737488355328) (hbase : B ≤ w.heap.size) (s' : Nat) (hsum : n + m = s')
    (h : ∀ A2 c2 w', OB w' B e A2 c2 (l ++ k) → w.grownBy w' (Value.slice A n c).ownBlock → Below B w w' → wpList P ops Q rest (a.put o.dst (.slice A2 s' c2)) w') : wpList P ops Q (o :: rest) a w :=
  wp_app_any hgd s x t e ho ht hi B l A n c hs hn hown k A' m c' B' hx hm hnil hR (by rw [hn, hm]; exact hlen) hbase (fun A2 c2 w' k1 k2 k3 => by rw [List.length_append, hn, hm, hsum]; exact h A2 c2 w' k1 k2 k3)
theorem OB.nil_ {w : World} {B : Nat} {e : TypeId} {A : Option Addr} {c : Nat} {l : List UInt8} (h : OB w B e A c l) (hA : A = none) : l.length = 0 ∧ c = 0 := by
  rcases h.2 with ⟨hv, h0⟩ | ⟨g, cap, cur, hv, _⟩
  · injection hv with _ _ h3
    exact ⟨h0, h3⟩
  · rw [hA] at hv; cases hv
theorem tail_nil {A : Option Addr} {n c k q : Nat} (h : A = none → n = 0 ∧ c = 0) (hq : k + q ≤ n) : tailA A c k = none → q = 0 ∧ c - k = 0 := fun e => by
  obtain ⟨h1, h2⟩ := h (tailA_none A c k e)
  omega
/-- b[:hi] in a region that draws nothing. -/
theorem wpList_to {P : Program} {ops : Array Oper} {rest : List Oper} {o : Oper} {a : Act} {Q : Exit → Act → World → Prop} {w : World} (hgd : o.guard = none) (t : TypeId) (x hi : Operand) (ho : o.op = .slice t x none (some hi) none) (vx vh v : Value) (hx : a.eval x = vx) (hh : a.eval hi = vh)
    (hr : (Instr.sliceAt t vx none (some vh) none).run P w = .ok v w) (h : wpList P ops Q rest (a.put o.dst v) w) : wpList P ops Q (o :: rest) a w :=
  wpList_plain hgd fun _ hK => by
    unfold Oper.wp execOp
    simp only [ho, Option.map_some, Option.map_none, hx, hh, Sem.run_bind, hr, Result.andThen_ok, Sem.run_pure]
    exact hK _ _ h
/-- min of two numbers, as one operation. -/
theorem op_min {P : Program} {o : Oper} {a : Act} {K : Act → World → Prop} {Q : Exit → Act → World → Prop} {w : World} (x y : Operand) (t : TypeId) (ho : o.op = .call { callee := .builtin .min, args := #[x, y], argTypes := #[t, t] }) (u v m : Int) (hx : a.eval x = .int .i64 u) (hy : a.eval y = .int .i64 v) (hm : min u v = m)
    (h : K (a.put o.dst (.int .i64 m)) w) : o.wp P a w K Q := by
  subst hm
  have e : (if v < u then v else u) = min u v := by split <;> omega
  have hr : (Builtin.min_ #[t, t] o.type #[.int .i64 u, .int .i64 v]).run P w = .ok (.int .i64 (min u v)) w := by rw [← e]; simp [Builtin.min_, Builtin.min2]
  unfold Oper.wp execOp
  simp only [ho, resolve, invoke, builtin, Sem.run_bind, Sem.run_pure, Result.andThen_ok, List.map_toArray, List.map_cons, List.map_nil, hx, hy, hr]
  exact h
/-- max of two numbers, as one operation. -/
theorem op_max {P : Program} {o : Oper} {a : Act} {K : Act → World → Prop} {Q : Exit → Act → World → Prop} {w : World} (x y : Operand) (t : TypeId) (ho : o.op = .call { callee := .builtin .max, args := #[x, y], argTypes := #[t, t] }) (u v m : Int) (hx : a.eval x = .int .i64 u) (hy : a.eval y = .int .i64 v) (hm : max u v = m)
    (h : K (a.put o.dst (.int .i64 m)) w) : o.wp P a w K Q := by
  subst hm
  have e : (if v > u then v else u) = max u v := by split <;> omega
  have hr : (Builtin.max_ #[t, t] o.type #[.int .i64 u, .int .i64 v]).run P w = .ok (.int .i64 (max u v)) w := by rw [← e]; simp [Builtin.max_, Builtin.max2]
  unfold Oper.wp execOp
  simp only [ho, resolve, invoke, builtin, Sem.run_bind, Sem.run_pure, Result.andThen_ok, List.map_toArray, List.map_cons, List.map_nil, hx, hy, hr]
  exact h
/-- The same in a region that draws nothing. -/
theorem wpList_min {P : Program} {ops : Array Oper} {rest : List Oper} {o : Oper} {a : Act} {Q : Exit → Act → World → Prop} {w : World} (hgd : o.guard = none) (x y : Operand) (t : TypeId) (ho : o.op = .call { callee := .builtin .min, args := #[x, y], argTypes := #[t, t] }) (u v m : Int) (hx : a.eval x = .int .i64 u) (hy : a.eval y = .int .i64 v) (hm : min u v = m)
    (h : wpList P ops Q rest (a.put o.dst (.int .i64 m)) w) : wpList P ops Q (o :: rest) a w :=
  wpList_plain hgd fun K hK => op_min x y t ho u v m hx hy hm (hK _ _ h)
theorem wpList_max {P : Program} {ops : Array Oper} {rest : List Oper} {o : Oper} {a : Act} {Q : Exit → Act → World → Prop} {w : World} (hgd : o.guard = none) (x y : Operand) (t : TypeId) (ho : o.op = .call { callee := .builtin .max, args := #[x, y], argTypes := #[t, t] }) (u v m : Int) (hx : a.eval x = .int .i64 u) (hy : a.eval y = .int .i64 v) (hm : max u v = m)
    (h : wpList P ops Q rest (a.put o.dst (.int .i64 m)) w) : wpList P ops Q (o :: rest) a w :=
  wpList_plain hgd fun K hK => op_max x y t ho u v m hx hy hm (hK _ _ h)
end Go.Proofs.Ytpbobmiajjgekaa

/- What turns in memory: all that was there is as it was, but in some blocks. Slices of bytes that lie away from some blocks. copy as one operation. Nothing of the program is named here. -/
namespace Go.Proofs.Ytpbobmiajjgekaa
set_option linter.unusedVariables false
set_option maxRecDepth 100000
set_option linter.unusedSimpArgs false
open Go.RowKit

/-- But in the blocks of L, all that was there is as it was. -/
structure Ke (L : List Nat) (w w' : World) : Prop where
  os : w'.os = w.os
  tape : w'.tape = w.tape
  output : w'.output = w.output
  size : w.heap.size ≤ w'.heap.size
  block : ∀ k, k < w.heap.size → k ∉ L → w'.heap[k]? = w.heap[k]?

theorem Ke.refl (L : List Nat) (w : World) : Ke L w w := ⟨rfl, rfl, rfl, Nat.le_refl _, fun _ _ _ => rfl⟩
theorem Ke.trans {L : List Nat} {a b c : World} (h : Ke L a b) (k : Ke L b c) : Ke L a c :=
  ⟨k.os.trans h.os, k.tape.trans h.tape, k.output.trans h.output, Nat.le_trans h.size k.size, fun i hi hL => (k.block i (Nat.lt_of_lt_of_le hi h.size) hL).trans (h.block i hi hL)⟩
theorem Ke.more {L L' : List Nat} {a b : World} (h : Ke L a b) (hL : ∀ x ∈ L, x ∈ L') : Ke L' a b := ⟨h.os, h.tape, h.output, h.size, fun k hk hn => h.block k hk (fun hx => hn (hL k hx))⟩
theorem Ke.nil {L : List Nat} {a b : World} (h : Ke [] a b) : Ke L a b := h.more (fun x hx => by cases hx)
theorem Ke.drew {L : List Nat} {a b : World} (h : Ke L a b) : Ke L a b.drew := ⟨h.os, h.tape, h.output, h.size, h.block⟩
theorem Ke.alloc {L : List Nat} {a b : World} (h : Ke L a b) (o : Obj) : Ke L a (b.alloc o) := h.trans ⟨rfl, rfl, rfl, by simp, fun k hk _ => Below.heap_alloc _ _ _ hk⟩
theorem Ke.set {L : List Nat} {a b : World} (h : Ke L a b) {p : Addr} (hp : p.block ∈ L) (u : Value) : Ke L a (b.setCell p u) :=
  h.trans ⟨rfl, rfl, rfl, by simp [World.setCell], fun k hk hn => Below.heap_setCell _ _ _ _ (fun e => hn (e ▸ hp))⟩
theorem Ke.row {L : List Nat} {a b : World} (h : Ke L a b) {g : Nat} (hg : g ∈ L) (cs : Array Value) : Ke L a (b.setRow g cs) :=
  h.trans ⟨rfl, rfl, rfl, by simp [World.setRow], fun k hk hn => setRow_other _ _ _ _ (fun e => hn (e ▸ hg))⟩
/-- A block that is behind all that was there may turn as it likes. -/
theorem Ke.new {L : List Nat} {g : Nat} {a b : World} (h : Ke (g :: L) a b) (hg : a.heap.size ≤ g) : Ke L a b :=
  ⟨h.os, h.tape, h.output, h.size, fun k hk hn => h.block k hk (fun hx => by
    rcases List.mem_cons.1 hx with rfl | hx
    · omega
    · exact hn hx)⟩
theorem Ke.of {w w' : World} (h : Below w.heap.size w w') : Ke [] w w' := ⟨h.os, h.tape, h.output, h.size, fun k hk _ => h.block k hk⟩
theorem Ke.below {L : List Nat} {w w' : World} {B : Nat} (h : Ke L w w') (hB : B ≤ w.heap.size) (hL : ∀ x ∈ L, B ≤ x) : Below B w w' :=
  ⟨h.os, h.tape, h.output, h.size, fun k hk => h.block k (by omega) (fun hx => by have := hL k hx; omega)⟩

theorem Bk.ke {L : List Nat} {w w' : World} {g : Nat} {t : TypeId} {cs : Array Value} (h : Bk w g t cs) (k : Ke L w w') (hg : g ∉ L) : Bk w' g t cs := (k.block g h.lt hg).trans h
theorem Bk.row {w : World} {g : Nat} {t : TypeId} {cs : Array Value} (h : Bk w g t cs) (ds : Array Value) : Bk (w.setRow g ds) g t ds := setRow_heap w g cs ds t _ h
theorem Bk.rowFar {w : World} {g g' : Nat} {t : TypeId} {cs : Array Value} (h : Bk w g t cs) (hn : g ≠ g') (ds : Array Value) : Bk (w.setRow g' ds) g t cs := (setRow_other w g' g ds hn).trans h

/-- The slice at A reads as the bytes l, and lies in none of the blocks of L. -/
def Rf (w : World) (L : List Nat) (A : Option Addr) (l : List UInt8) : Prop :=
  l = [] ∨ ∃ b o, A = some ⟨b, o, none⟩ ∧ b ∉ L ∧ b < w.heap.size ∧ ∀ i, (h : i < l.length) → w.cell? ⟨b, o + i, none⟩ = some (.int .u8 ((l[i]).toNat : Int))

theorem Rf.rb {w : World} {L : List Nat} {A : Option Addr} {l : List UInt8} (h : Rf w L A l) : Rb w w.heap.size A l := by
  rcases h with h | ⟨b, o, e, _, hb, hc⟩
  · exact .inl h
  · exact .inr ⟨b, o, e, hb, hc⟩
theorem Rb.rf {w : World} {B : Nat} {L : List Nat} {A : Option Addr} {l : List UInt8} (h : Rb w B A l) (hL : ∀ x ∈ L, B ≤ x) : Rf w L A l := by
  rcases h with h | ⟨b, o, e, hb, hc⟩
  · exact .inl h
  · by_cases h0 : l = []
    · exact .inl h0
    · have h1 := hc 0 (List.length_pos_iff.2 h0)
      exact .inr ⟨b, o, e, fun hx => by have := hL b hx; omega, World.block_lt_of_cell? w _ h1, hc⟩
theorem Rf.ke {w w' : World} {L L' : List Nat} {A : Option Addr} {l : List UInt8} (h : Rf w L A l) (k : Ke L' w w') (hL : ∀ x ∈ L', x ∈ L) : Rf w' L A l := by
  rcases h with h | ⟨b, o, e, hn, hb, hc⟩
  · exact .inl h
  · exact .inr ⟨b, o, e, hn, Nat.lt_of_lt_of_le hb k.size, fun i hi => (World.cell?_of_block (w := w) (a := ⟨b, o + i, none⟩) (k.block b hb (fun hx => hn (hL b hx)))).trans (hc i hi)⟩
theorem Rf.less {w : World} {L L' : List Nat} {A : Option Addr} {l : List UInt8} (h : Rf w L A l) (hL : ∀ x ∈ L', x ∈ L) : Rf w L' A l := by
  rcases h with h | ⟨b, o, e, hn, hb, hc⟩
  · exact .inl h
  · exact .inr ⟨b, o, e, fun hx => hn (hL b hx), hb, hc⟩
theorem Rf.bk {w : World} {L : List Nat} {g : Nat} {t : TypeId} {l : List UInt8} (h : Bk w g t (bcells l)) (hg : g ∉ L) : Rf w L (some ⟨g, 0, none⟩) l :=
  .inr ⟨g, 0, rfl, hg, h.lt, fun i hi => by rw [h.cell, Nat.zero_add, bcells_at l i hi]⟩
theorem Rf.front {w : World} {L : List Nat} {A : Option Addr} {l : List UInt8} (h : Rf w L A l) (n : Nat) : Rf w L A (l.take n) := by
  rcases h with h | ⟨b, o, e, hn, hb, hc⟩
  · left; rw [h]; simp
  · exact .inr ⟨b, o, e, hn, hb, fun i hi => by
      have hi' : i < l.length := by rw [List.length_take] at hi; omega
      rw [hc i hi', List.getElem_take]⟩
theorem Rf.tail {w : World} {L : List Nat} {A : Option Addr} {l : List UInt8} {c : Nat} (h : Rf w L A l) (lo : Nat) (hc : l.length ≤ c) : Rf w L (tailA A c lo) (l.drop lo) := by
  by_cases h0 : l.drop lo = []
  · left; exact h0
  · have hlo : lo < l.length := by
      rcases Nat.lt_or_ge lo l.length with h1 | h1
      · exact h1
      · exact absurd (List.drop_of_length_le h1) h0
    rcases h with h | ⟨b, o, e, hn, hb, hcl⟩
    · rw [h] at hlo; simp at hlo
    · subst e
      have e2 : tailA (some ⟨b, o, none⟩) c lo = some ⟨b, o + lo, none⟩ := by
        unfold tailA
        rw [if_neg (by omega)]
        simp only [Option.map_some, Nat.mul_one, Addr.add]
        split <;> simp_all
      rw [e2]
      refine .inr ⟨b, o + lo, rfl, hn, hb, fun i hi => ?_⟩
      have hi' : lo + i < l.length := by rw [List.length_drop] at hi; omega
      have := hcl (lo + i) hi'
      rw [← Nat.add_assoc] at this
      rw [this, List.getElem_drop]

theorem tail_at (g o c lo : Nat) (h : c ≠ lo) : tailA (some ⟨g, o, none⟩) c lo = some ⟨g, o + lo, none⟩ := by
  unfold tailA
  rw [if_neg h]
  simp only [Option.map_some, Nat.mul_one, add_plain]
theorem bcells_splice (L cs : List UInt8) (o : Nat) : ((bcells L).toList.take o ++ ((bcells cs).toList ++ (bcells L).toList.drop (o + cs.length))).toArray = bcells (splice L o cs) := by
  unfold bcells splice
  simp

/-- copy into a row that is known whole, as one operation. -/
theorem op_copy {P : Program} {o : Oper} {a : Act} {K : Act → World → Prop} {Q : Exit → Act → World → Prop} {w : World} (d s : Operand) (dT sT elem : TypeId)
    (ho : o.op = .call { callee := .builtin .copy, args := #[d, s], argTypes := #[dT, sT] }) (hu : P.underlying dT = some (.slice elem)) (hsz : (P.info? elem).map (·.size) = some 1)
    (dp sp : Option Addr) (dLen dCap sLen sCap : Nat) (hd : a.eval d = .slice dp dLen dCap) (hs : a.eval s = .slice sp sLen sCap)
    (g off : Nat) (cur : List UInt8) (t : TypeId) (hg : Bk w g t (bcells cur)) (cs : List UInt8) (hn : cs.length = min sLen dLen) (hpos : 0 < cs.length → dp = some ⟨g, off, none⟩) {B : Nat} (hR : Rb w B sp cs)
    (hfit : off + cs.length ≤ cur.length) (h : K (a.put o.dst (.int .i64 (cs.length : Int))) (w.setRow g (bcells (splice cur off cs)))) : o.wp P a w K Q := by
  have hn' : cs.length = Nat.min sLen dLen := hn
  by_cases h0 : cs = []
  · subst h0
    have hrun := run_copy_none (P := P) w dT sT o.type elem dp sp dLen dCap sLen sCap hu hsz (by rw [← hn']; rfl)
    have e1 : splice cur off [] = cur := by simp [splice]
    rw [e1, setRow_self w g _ t _ hg] at h
    unfold Oper.wp
    simp [execOp, ho, resolve, invoke, builtin, hd, hs, hrun, Result.andThen]
    exact h
  · obtain rfl := hpos (List.length_pos_iff.2 h0)
    rcases hR with hR | ⟨b, o', rfl, _, hc⟩
    · exact absurd hR h0
    · have hrun := run_copy_row (P := P) w dT sT o.type elem g off dLen dCap ⟨b, o', none⟩ sLen sCap (bcells cur) t (bcells cs).toList hu hsz hg (by simpa [bcells] using hn') (fun j v hj => by
          have hlt : j < cs.length := by
            have := (List.getElem?_eq_some_iff.1 hj).1
            simpa [bcells] using this
          rw [add_plain, hc j hlt]
          simp [bcells, hlt] at hj
          exact congrArg some hj) (by simpa [bcells] using hfit) (fun v hv => by
          simp [bcells] at hv
          obtain ⟨x, _, rfl⟩ := hv
          rfl)
      have e2 : ((bcells cur).toList.take off ++ (bcells cs).toList ++ (bcells cur).toList.drop (off + (bcells cs).toList.length)).toArray = bcells (splice cur off cs) := by
        rw [← bcells_splice]
        simp [bcells]
      have e3 : goInt (bcells cs).toList.length = .int .i64 (cs.length : Int) := by simp [bcells, goInt]
      rw [e2, e3] at hrun
      unfold Oper.wp
      simp [execOp, ho, resolve, invoke, builtin, hd, hs, hrun, Result.andThen]
      exact h
end Go.Proofs.Ytpbobmiajjgekaa

/- A map from names to leases (pointers, by their blocks' numbers); its keys, sorted. -/
namespace Go.Proofs.Ytpbobmiajjgekaa
set_option linter.unusedVariables false
set_option maxRecDepth 100000
set_option linter.unusedSimpArgs false
open Go.RowKit Go.Maps

abbrev lptr (b : Nat) : Value := .pointer (some ⟨b, 0, none⟩)
/-- How a pointer in the map reads: by its block's number. -/
def lRP : Value → Option (DataW Unit × List MemPlace)
  | .pointer none => some (.nil, [])
  | .pointer (some ⟨b, 0, none⟩) => some (.lit (.int .u64 (b : Int)), [])
  | _ => none
theorem lRP_nil : lRP (.pointer none) = some (.nil, []) := rfl
theorem lRP_ptr (b : Nat) : lRP (lptr b) = some (.lit (.int .u64 (b : Int)), []) := rfl
theorem lRP_inv {v : Value} {b : Nat} {ps : List MemPlace} (h : lRP v = some (.lit (.int .u64 (b : Int)), ps)) : v = lptr b := by
  unfold lRP at h
  split at h
  · simp at h
  · simp at h
    obtain ⟨h, _⟩ := h
    have : (_ : Nat) = b := Int.ofNat.inj h
    subst this; rfl
  · cases h
theorem lRP_inv_nil {v : Value} {ps : List MemPlace} (h : lRP v = some (.nil, ps)) : v = .pointer none := by
  unfold lRP at h
  split at h
  · rfl
  · simp at h
  · cases h
theorem llaw : Keyed Try.prog 9 := string_keyed Try.underlying9
theorem lzero (w : World) : (zeroValue 61).run Try.prog w = .ok (.pointer none) w := by kernel_rfl
theorem lkey {s : ByteArray} (h : s.size ≤ 140737488355328) : keyOf Try.prog 9 (.string s) = some (.string s.data.toList) := by
  unfold keyOf
  simp only [Try.underlying9]
  simp [mapKey]
  all_goals (try (unfold maxLen; omega))
theorem lkey_ne {a b : ByteArray} (h : a ≠ b) : (Lit.string a.data.toList) ≠ (Lit.string b.data.toList) := fun e => h (by
  injection e with e
  apply ByteArray.ext
  exact Array.toList_inj.1 e)
theorem bmk_toList (s : ByteArray) : (⟨s.data.toList.toArray⟩ : ByteArray) = s := by cases s; simp

/-- At mb lies the map of those names to those blocks. -/
structure Ml (u : World) (mb : Nat) (l : List (ByteArray × Nat)) : Prop where
  few : l.length ≤ 1025
  ids : l.Pairwise (fun x y => x.1 ≠ y.1)
  wf : ∀ x ∈ l, x.1.size ≤ 140737488355328
  ex : ∃ D, u.ownsMap Try.prog 9 lRP mb l.length D ∧ (∀ k : ByteArray, (∃ x ∈ l, x.1 = k) ↔ Maps.has D (.string k.data.toList) = true) ∧ ∀ x ∈ l, D.atKey (.string x.1.data.toList) .nil = .lit (.int .u64 (x.2 : Int))
theorem ml_perm {u : World} {mb n : Nat} {D : DataW Unit} {l : List (ByteArray × Nat)} (h : u.ownsMap Try.prog 9 lRP mb n D) (ids : l.Pairwise (fun x y => x.1 ≠ y.1)) (hi : ∀ k : ByteArray, (∃ x ∈ l, x.1 = k) ↔ Maps.has D (.string k.data.toList) = true) :
    (l.map fun x => x.1.data.toList).Perm (strKeys D) := by
  refine Collected.perm (left := fun _ => false) ⟨?_, fun x => ?_⟩ h llaw Try.underlying9 (fun _ => rfl)
  · refine List.pairwise_map.2 (ids.imp fun {a b} hne e => hne ?_)
    apply ByteArray.ext
    exact Array.toList_inj.1 e
  · have := hi ⟨x.toArray⟩
    simp only [List.mem_map]
    constructor
    · rintro ⟨y, hy, rfl⟩
      exact ⟨by have := (hi y.1).1 ⟨y, hy, rfl⟩; exact this, by first | rfl | trivial⟩
    · rintro ⟨h1, _⟩
      obtain ⟨y, hy, e⟩ := this.2 (by simpa using h1)
      exact ⟨y, hy, by rw [e]⟩
theorem size_strKeys {D : DataW Unit} (h : IsMap D) : Maps.size D = (strKeys D).length := by
  obtain ⟨es, rfl⟩ := h
  simp [Maps.size, strKeys]
theorem ml_size {u : World} {mb n : Nat} {D : DataW Unit} {l : List (ByteArray × Nat)} (h : u.ownsMap Try.prog 9 lRP mb n D) (ids : l.Pairwise (fun x y => x.1 ≠ y.1)) (hi : ∀ k : ByteArray, (∃ x ∈ l, x.1 = k) ↔ Maps.has D (.string k.data.toList) = true) : Maps.size D = l.length := by
  rw [size_strKeys (h.tidy llaw).isMap, ← (ml_perm h ids hi).length_eq, List.length_map]
theorem Ml.of {u : World} {mb n : Nat} {D : DataW Unit} {l : List (ByteArray × Nat)} (few : l.length ≤ 1025) (ids : l.Pairwise (fun x y => x.1 ≠ y.1)) (wf : ∀ x ∈ l, x.1.size ≤ 140737488355328) (h : u.ownsMap Try.prog 9 lRP mb n D)
    (hi : ∀ k : ByteArray, (∃ x ∈ l, x.1 = k) ↔ Maps.has D (.string k.data.toList) = true) (ha : ∀ x ∈ l, D.atKey (.string x.1.data.toList) .nil = .lit (.int .u64 (x.2 : Int))) : Ml u mb l := by
  have hs := ml_size h ids hi
  refine ⟨few, ids, wf, D, ?_, hi, ha⟩
  obtain ⟨es, clock, hb, F, hsz, e⟩ := h
  refine ⟨es, clock, hb, F, ?_, e⟩
  rw [e] at hs
  simp only [Maps.size, length_sorted, List.length_map, Array.length_toList] at hs
  omega
theorem Ml.lt {u : World} {mb : Nat} {l : List (ByteArray × Nat)} (h : Ml u mb l) : mb < u.heap.size := by
  obtain ⟨_, _, _, D, h3, _⟩ := h
  exact h3.lt
theorem Ml.block {u : World} {mb : Nat} {l : List (ByteArray × Nat)} (h : Ml u mb l) : ∃ es ck, u.heap[mb]? = some (.map es ck) := by
  obtain ⟨_, _, _, D, ⟨es, clock, hb, _⟩, _⟩ := h
  exact ⟨es, clock, hb⟩
theorem Ml.ke {u u' : World} {mb : Nat} {l : List (ByteArray × Nat)} {L : List Nat} (h : Ml u mb l) (k : Ke L u u') (hm : mb ∉ L) : Ml u' mb l := by
  obtain ⟨h0, h1, h2, D, ⟨es, clock, hb, r⟩, h4⟩ := h
  exact ⟨h0, h1, h2, D, ⟨es, clock, (k.block mb (lt_of_block hb) hm).trans hb, r⟩, h4⟩
theorem Ml.perm {u : World} {mb : Nat} {l m : List (ByteArray × Nat)} (h : Ml u mb l) (p : l.Perm m) : Ml u mb m := by
  obtain ⟨h0, h1, h2, D, h3, h5, h6⟩ := h
  have e := p.length_eq
  exact ⟨e ▸ h0, (p.pairwise_iff (fun {a b} (e : a.1 ≠ b.1) => e.symm)).1 h1, fun x hx => h2 x (p.mem_iff.2 hx), D, e ▸ h3, fun k => by rw [← h5 k]; exact ⟨fun ⟨x, hx, hk⟩ => ⟨x, p.mem_iff.2 hx, hk⟩, fun ⟨x, hx, hk⟩ => ⟨x, p.mem_iff.1 hx, hk⟩⟩, fun x hx => h6 x (p.mem_iff.2 hx)⟩
theorem lturned_ke {w w' : World} {b : Nat} (h : w.mapTurned w' b) : Ke [b] w w' := by
  have g := h.grown
  exact ⟨g.os, g.tape, g.output, g.size, fun k hk hn => g.block k hk (fun e => hn (by injection e with e; simp [e]))⟩
theorem Ml.hit {u : World} {mb : Nat} {l : List (ByteArray × Nat)} (h : Ml u mb l) {s : ByteArray} {b : Nat} (hx : (s, b) ∈ l) :
    (Instr.lookup 58 (.map (some mb)) (.string s) true).run Try.prog u = .ok (.tuple #[lptr b, .bool true]) u := by
  obtain ⟨h0, h1, h2, D, h3, h5, h6⟩ := h
  obtain ⟨v, ps, hr, hv⟩ := h3.look_ok llaw Try.underlying58 (lzero u) lRP_nil (lkey (h2 _ hx))
  rw [h6 _ hx] at hv
  have e := lRP_inv hv
  subst e
  rw [hr, (h5 s).1 ⟨_, hx, rfl⟩]
theorem Ml.hit1 {u : World} {mb : Nat} {l : List (ByteArray × Nat)} (h : Ml u mb l) {s : ByteArray} {b : Nat} (hx : (s, b) ∈ l) :
    (Instr.lookup 58 (.map (some mb)) (.string s) false).run Try.prog u = .ok (lptr b) u := by
  obtain ⟨h0, h1, h2, D, h3, h5, h6⟩ := h
  obtain ⟨v, ps, hr, hv⟩ := h3.lookup llaw Try.underlying58 (lzero u) lRP_nil (lkey (h2 _ hx))
  rw [h6 _ hx] at hv
  have e := lRP_inv hv
  subst e
  exact hr
theorem Ml.miss {u : World} {mb : Nat} {l : List (ByteArray × Nat)} (h : Ml u mb l) {s : ByteArray} (hk : s.size ≤ 140737488355328) (hn : ∀ x ∈ l, x.1 ≠ s) :
    (Instr.lookup 58 (.map (some mb)) (.string s) true).run Try.prog u = .ok (.tuple #[.pointer none, .bool false]) u := by
  obtain ⟨h0, h1, h2, D, h3, h5, h6⟩ := h
  obtain ⟨v, ps, hr, hv⟩ := h3.look_ok llaw Try.underlying58 (lzero u) lRP_nil (lkey hk)
  have hf : Maps.has D (.string s.data.toList) = false := by
    cases hh : Maps.has D (.string s.data.toList)
    · rfl
    · obtain ⟨x, hx, e⟩ := (h5 s).2 hh
      exact absurd e (hn x hx)
  rw [atKey_of_not_has hf] at hv
  have e := lRP_inv_nil hv
  subst e
  rw [hr, hf]
theorem Ml.len {u : World} {mb : Nat} {l : List (ByteArray × Nat)} (h : Ml u mb l) (ty : TypeId) (n : Nat) (hn : l.length = n) : (Builtin.len_ #[58] ty #[.map (some mb)]).run Try.prog u = .ok (.int .i64 (n : Int)) u := by
  obtain ⟨h0, h1, h2, D, h3, h5, h6⟩ := h
  rw [h3.len Try.underlying58 ty, ml_size h3 h1 h5, hn]
/-- What is left without a name. -/
def outK (s : ByteArray) (l : List (ByteArray × Nat)) : List (ByteArray × Nat) := l.filter fun y => !nmE y.1 s
theorem mem_outK {s : ByteArray} {l : List (ByteArray × Nat)} {y : ByteArray × Nat} : y ∈ outK s l ↔ y ∈ l ∧ y.1 ≠ s := by
  unfold outK
  rw [List.mem_filter]
  constructor
  · rintro ⟨h1, h2⟩
    exact ⟨h1, fun e => by rw [(nmE_iff _ _).2 e] at h2; cases h2⟩
  · rintro ⟨h1, h2⟩
    refine ⟨h1, ?_⟩
    cases hq : nmE y.1 s with
    | false => rfl
    | true => exact absurd ((nmE_iff _ _).1 hq) h2
theorem Ml.store {u : World} {mb : Nat} {l : List (ByteArray × Nat)} {s : ByteArray} (h : Ml u mb l) (hl : (outK s l).length ≤ 1024) (b : Nat) (hk : s.size ≤ 140737488355328) :
    ∃ w', (Instr.mapUpdate 58 (.map (some mb)) (.string s) (lptr b)).run Try.prog u = .ok () w' ∧ Ml w' mb ((s, b) :: outK s l) ∧ Ke [mb] u w' := by
  obtain ⟨h0, h1, h2, D, h3, h5, h6⟩ := h
  obtain ⟨w', hr, h7, h8⟩ := h3.store llaw Try.underlying58 (by unfold maxLen; omega) (lkey hk) (lRP_ptr b)
  refine ⟨w', hr, Ml.of (by simp; omega) (List.pairwise_cons.2 ⟨fun y hy => (mem_outK.1 hy).2.symm, h1.filter _⟩) (fun y hy => ?_) h7 (fun k => ?_) (fun y hy => ?_), lturned_ke h8⟩
  · rcases List.mem_cons.1 hy with rfl | hy
    · exact hk
    · exact h2 y (mem_outK.1 hy).1
  · by_cases e : k = s
    · subst e
      rw [has_put_same h3.isMap (by trivial)]
      simp
    · rw [has_put_other (lkey_ne e), ← h5 k]
      simp only [List.mem_cons]
      constructor
      · rintro ⟨y, rfl | hy, e1⟩
        · exact absurd e1.symm e
        · exact ⟨y, (mem_outK.1 hy).1, e1⟩
      · rintro ⟨y, hy, e1⟩
        exact ⟨y, .inr (mem_outK.2 ⟨hy, e1 ▸ e⟩), e1⟩
  · rcases List.mem_cons.1 hy with rfl | hy
    · exact atKey_put_same h3.isMap (by trivial) _ _
    · obtain ⟨hy1, hy2⟩ := mem_outK.1 hy
      rw [atKey_put_other (lkey_ne hy2)]
      exact h6 y hy1
theorem Ml.drop {u : World} {mb : Nat} {l : List (ByteArray × Nat)} (h : Ml u mb l) (s : ByteArray) (hk : s.size ≤ 140737488355328) (ty : TypeId) :
    ∃ w', (Builtin.delete_ #[58, 9] ty #[.map (some mb), .string s]).run Try.prog u = .ok (.tuple #[]) w' ∧ Ml w' mb (outK s l) ∧ Ke [mb] u w' := by
  obtain ⟨h0, h1, h2, D, h3, h5, h6⟩ := h
  obtain ⟨w', hr, h7, h8⟩ := h3.drop llaw Try.underlying58 (lkey hk) ty
  refine ⟨w', hr, Ml.of (Nat.le_trans (List.length_filter_le _ _) h0) (h1.filter _) (fun y hy => h2 y (mem_outK.1 hy).1) h7 (fun k => ?_) (fun y hy => ?_), lturned_ke h8⟩
  · by_cases e : k = s
    · subst e
      rw [has_del_same]
      simp only [Bool.false_eq_true, iff_false]
      rintro ⟨y, hy, e⟩
      exact (mem_outK.1 hy).2 e
    · rw [has_del_other (lkey_ne e), ← h5 k]
      constructor
      · rintro ⟨y, hy, e1⟩; exact ⟨y, (mem_outK.1 hy).1, e1⟩
      · rintro ⟨y, hy, e1⟩
        exact ⟨y, mem_outK.2 ⟨hy, e1 ▸ e⟩, e1⟩
  · obtain ⟨hy1, hy2⟩ := mem_outK.1 hy
    rw [atKey_del_other (lkey_ne hy2)]
    exact h6 y hy1
/-- A new one. -/
theorem Ml.made (w : World) : Ml (w.alloc (.map #[] 0)) w.heap.size [] :=
  ⟨by simp, .nil, (fun _ h => by cases h), ⟨DataW.map [], World.ownsMap_made _ _ _ _, (fun k => by simp [Maps.has]), (fun x h => by cases h)⟩⟩
/-- Its keys, sorted: those of rising names, in order. -/
theorem sorted_names {l : List ByteArray} (h : l.Pairwise fun a b => ltS a b = true) {ss : List (List UInt8)} (p : ss.Perm (l.map fun x => x.data.toList)) : ss.mergeSort (fun x y => decide (x ≤ y)) = l.map fun x => x.data.toList := by
  refine List.Perm.eq_of_pairwise (le := fun a b => leB a b = true) (fun a b _ _ h1 h2 => ?_) (List.pairwise_mergeSort (fun a b c h1 h2 => by simp only [leB, decide_eq_true_eq] at *; exact List.le_trans h1 h2) (fun a b => by simp only [leB, Bool.or_eq_true, decide_eq_true_eq]; exact List.le_total a b) ss) ?_ ((List.mergeSort_perm ss _).trans p)
  · simp only [leB, decide_eq_true_eq] at h1 h2
    exact List.le_antisymm h1 h2
  · refine List.pairwise_map.2 (h.imp fun {a b} hab => ?_)
    unfold ltS at hab
    rw [bytesLess_eq, decide_eq_true_eq, ByteArray.toList_eq, ByteArray.toList_eq] at hab
    simp only [leB, decide_eq_true_eq]
    exact List.le_of_lt hab
end Go.Proofs.Ytpbobmiajjgekaa

/- Configurations in memory: rows of structs that slices read as. -/
namespace Go.Proofs.Ytpbobmiajjgekaa
set_option linter.unusedVariables false
set_option maxRecDepth 100000
set_option linter.unusedSimpArgs false
open Go.RowKit

/-- The slice at A reads as the rows l, of k cells each. -/
def Rw {β : Type} (k : Nat) (f : β → Array Value) (w : World) (A : Option Addr) (l : List β) : Prop :=
  l = [] ∨ ∃ b o, A = some ⟨b, o, none⟩ ∧ b < w.heap.size ∧ ∀ i, (h : i < l.length) → ∀ j, j < k → w.cell? ⟨b, o + i * k + j, none⟩ = (f l[i])[j]?
theorem Rw.nil {β : Type} {k : Nat} {f : β → Array Value} {w : World} {A : Option Addr} : Rw k f w A [] := .inl rfl
theorem Rw.on {β : Type} {k : Nat} {f : β → Array Value} {w w' : World} {A : Option Addr} {l : List β} (h : Rw k f w A l) (hb : Below w.heap.size w w') : Rw k f w' A l := by
  rcases h with h | ⟨b, o, e, hlt, hc⟩
  · exact .inl h
  · exact .inr ⟨b, o, e, Nat.lt_of_lt_of_le hlt hb.size, fun i hi j hj => (hb.cell (p := ⟨b, o + i * k + j, none⟩) hlt).trans (hc i hi j hj)⟩
/-- One of the rows, in every later world. -/
theorem Rw.at_ {β : Type} {k : Nat} {f : β → Array Value} {w : World} {A : Option Addr} {l : List β} (h : Rw k f w A l) (i : Nat) (hi : i < l.length) :
    ∃ b o x, A = some ⟨b, o, none⟩ ∧ l[i]? = some x ∧ ∀ u, Below w.heap.size w u → ∀ j, j < k → u.cell? ⟨b, o + i * k + j, none⟩ = (f x)[j]? := by
  rcases h with h | ⟨b, o, e, hlt, hc⟩
  · subst h; simp at hi
  · exact ⟨b, o, l[i], e, List.getElem?_eq_getElem hi, fun u hb j hj => (hb.cell (p := ⟨b, o + i * k + j, none⟩) hlt).trans (hc i hi j hj)⟩

abbrev ncs (n : Nt) : Array Value := #[.int .u32 (n.addr : Int), .int .i64 n.bits]
abbrev kcs (k : Tk) : Array Value := #[.string k.name, .string k.sec, .int .i64 k.till]
/-- A tenant, with where its rows lie. -/
structure Tv where
  t : Tn
  An : Option Addr
  cn : Nat
  Ak : Option Addr
  ck : Nat
abbrev tcs (x : Tv) : Array Value := #[.string x.t.name, .int .i64 x.t.names, .int .i64 x.t.visitors, .slice x.An x.t.nets.length x.cn, .slice x.Ak x.t.toks.length x.ck]
structure Cv where
  wait : Int
  grace : Int
  idle : Int
  lease : Int
  ts : List Tv
  A : Option Addr
  c : Nat
abbrev ccs (x : Cv) : Array Value := #[.int .i64 x.wait, .int .i64 x.grace, .int .i64 x.idle, .int .i64 x.lease, .slice x.A x.ts.length x.c]
def Cv.cg (x : Cv) : Cg := ⟨x.wait, x.grace, x.idle, x.lease, x.ts.map (·.t)⟩

/-- Where a slice of n rows may lie. -/
structure Fit (A : Option Addr) (n c : Nat) : Prop where
  cap : n ≤ c
  max : c ≤ 9223372036854775807
  nil_ : A = none → n = 0 ∧ c = 0

abbrev RN (w : World) (A : Option Addr) (l : List Nt) : Prop := Rw 2 ncs w A l
abbrev RK (w : World) (A : Option Addr) (l : List Tk) : Prop := Rw 3 kcs w A l
structure RT1 (w : World) (x : Tv) : Prop where
  n : RN w x.An x.t.nets
  k : RK w x.Ak x.t.toks
  fn : Fit x.An x.t.nets.length x.cn
  fk : Fit x.Ak x.t.toks.length x.ck
  lt : ∀ n ∈ x.t.nets, n.addr < 4294967296
  sz : x.t.name.size ≤ 140737488355328
  szk : ∀ k ∈ x.t.toks, k.name.size ≤ 140737488355328 ∧ k.sec.size ≤ 140737488355328
theorem RT1.on {w w' : World} {x : Tv} (h : RT1 w x) (hb : Below w.heap.size w w') : RT1 w' x := ⟨h.n.on hb, h.k.on hb, h.fn, h.fk, h.lt, h.sz, h.szk⟩
structure RT (w : World) (A : Option Addr) (l : List Tv) : Prop where
  r : Rw 5 tcs w A l
  each : ∀ x ∈ l, RT1 w x
theorem RT.on {w w' : World} {A : Option Addr} {l : List Tv} (h : RT w A l) (hb : Below w.heap.size w w') : RT w' A l := ⟨h.r.on hb, fun x hx => (h.each x hx).on hb⟩
/-- The configuration x lies in memory. -/
structure RC (w : World) (x : Cv) : Prop where
  r : RT w x.A x.ts
  f : Fit x.A x.ts.length x.c
theorem RC.on {w w' : World} {x : Cv} (h : RC w x) (hb : Below w.heap.size w w') : RC w' x := ⟨h.r.on hb, h.f⟩

theorem RN.at2 {w : World} {A : Option Addr} {l : List Nt} (h : RN w A l) (i : Nat) (hi : i < l.length) :
    ∃ b o x, A = some ⟨b, o, none⟩ ∧ l[i]? = some x ∧ ∀ u, Below w.heap.size w u → u.cell? ⟨b, o + i * 2, none⟩ = some (.int .u32 (x.addr : Int)) ∧ u.cell? ⟨b, o + i * 2 + 1, none⟩ = some (.int .i64 x.bits) := by
  obtain ⟨b, o, x, h1, h2, h3⟩ := Rw.at_ h i hi
  exact ⟨b, o, x, h1, h2, fun u hb => ⟨h3 u hb 0 (by omega), h3 u hb 1 (by omega)⟩⟩
theorem RK.at3 {w : World} {A : Option Addr} {l : List Tk} (h : RK w A l) (i : Nat) (hi : i < l.length) :
    ∃ b o x, A = some ⟨b, o, none⟩ ∧ l[i]? = some x ∧ ∀ u, Below w.heap.size w u → u.cell? ⟨b, o + i * 3, none⟩ = some (.string x.name) ∧ u.cell? ⟨b, o + i * 3 + 1, none⟩ = some (.string x.sec) ∧ u.cell? ⟨b, o + i * 3 + 2, none⟩ = some (.int .i64 x.till) := by
  obtain ⟨b, o, x, h1, h2, h3⟩ := Rw.at_ h i hi
  exact ⟨b, o, x, h1, h2, fun u hb => ⟨h3 u hb 0 (by omega), h3 u hb 1 (by omega), h3 u hb 2 (by omega)⟩⟩
theorem RT.at5 {w : World} {A : Option Addr} {l : List Tv} (h : RT w A l) (i : Nat) (hi : i < l.length) :
    ∃ b o x, A = some ⟨b, o, none⟩ ∧ l[i]? = some x ∧ RT1 w x ∧ ∀ u, Below w.heap.size w u → u.cell? ⟨b, o + i * 5, none⟩ = some (.string x.t.name) ∧ u.cell? ⟨b, o + i * 5 + 1, none⟩ = some (.int .i64 x.t.names) ∧ u.cell? ⟨b, o + i * 5 + 2, none⟩ = some (.int .i64 x.t.visitors) ∧
      u.cell? ⟨b, o + i * 5 + 3, none⟩ = some (.slice x.An x.t.nets.length x.cn) ∧ u.cell? ⟨b, o + i * 5 + 4, none⟩ = some (.slice x.Ak x.t.toks.length x.ck) := by
  obtain ⟨b, o, x, h1, h2, h3⟩ := Rw.at_ h.r i hi
  exact ⟨b, o, x, h1, h2, h.each x (List.mem_of_getElem? h2), fun u hb => ⟨h3 u hb 0 (by omega), h3 u hb 1 (by omega), h3 u hb 2 (by omega), h3 u hb 3 (by omega), h3 u hb 4 (by omega)⟩⟩
end Go.Proofs.Ytpbobmiajjgekaa
