/- Open, AppOp, CgO, Cg4, Cg5, Cg6, CfgN, Iw, Bits, Words, Stretch, Blocks, PutB, Through, Stir, Ending, Pad, Tail, Slice, Sum, SumL, Text, MacM, ConvR: texts of this seat, one behind the other. -/
import Derived.Test.YtcplebbaiambgaaG1
import Derived.ProofKit
import Derived.OpenShut
import Derived.ShutString
import Derived.ChangeOld
import Derived.Below
import Derived.SliceStrings
import Derived.Test.YtcplebbaiambgaaG3
import Derived.Test.YtcplebbaiambgaaG2
import Derived.Test.YtcplebbaiambgaaCg2
import Derived.BigRegion
import Derived.Deep.Cut
import Derived.Deep.CutRange
import Derived.Test.YtcplebbaiambgaaChecked
import Derived.Deep.QuietTactic
import Derived.BigQuiet
import Derived.StillTailTactics
import Derived.Handy
import Derived.Laws.CopyOwn
import Derived.Test.YtcplebbaiambgaaRows
/- What comes in, opened into my own words. Nothing of the program is named here. -/
namespace Go.Proofs.Ytcplebbaiambgaa
set_option linter.unusedVariables false
set_option maxRecDepth 100000
set_option linter.unusedSimpArgs false
open Go.ChangeShapes Go.WideShapes Go.ChangeAt Go.RowKit

/-- A slice of bytes that came in. -/
structure InB (W : World) (A : Option Addr) (l : List UInt8) (n c : Nat) : Prop where
  rb : Rb W W.heap.size A l
  len : l.length = n
  cap : n ≤ c
  max : c ≤ maxLen
  nil_ : A = none → n = 0 ∧ c = 0

/-- A slice of integers that came in. -/
structure InN (k : IntKind) (W : World) (A : Option Addr) (l : List Int) (n c : Nat) : Prop where
  len : l.length = n
  cap : n ≤ c
  max : c ≤ maxLen
  nil_ : A = none → n = 0 ∧ c = 0
  at_ : n = 0 ∨ ∃ b o, A = some ⟨b, o, none⟩ ∧ b < W.heap.size ∧ ∀ i, (h : i < l.length) → W.cell? ⟨b, o + i, none⟩ = some (.int k l[i])
  wf : ∀ x ∈ l, (Lit.int k x).wf = true

theorem add_plain (b o i : Nat) : (⟨b, o, none⟩ : Addr).add i = ⟨b, o + i, none⟩ := by unfold Addr.add; split <;> simp_all

theorem open_nums {H : Type} {enc : TypeId × Value → H} {P : Program} {W : World} {A : Option Addr} {n c : Nat} {t e : TypeId} {k : IntKind} {d : DataW H} {p : List MemPlace} (ht : P.underlying t = some (.slice e)) (he : P.underlying e = some (.int k)) (hc : P.cellsOf e = 1)
    (h : DataW.Trod enc P W 0 (fun _ => true) true t (.slice A n c) d p) : ∃ l, InN k W A l n c := by
  obtain ⟨fuel, hf⟩ := h
  rcases open_ints ht he hc hf with ⟨hcs, _⟩ | ⟨x, ln, cp, zs, hcs, _, hl, hm, hz, _, hcell, hwz⟩
  · simp [Value.cells] at hcs
    obtain ⟨rfl, rfl, rfl⟩ := hcs
    exact ⟨[], ⟨rfl, Nat.le_refl _, by unfold maxLen; omega, fun _ => ⟨rfl, rfl⟩, .inl rfl, fun x hx => by cases hx⟩⟩
  · simp [Value.cells] at hcs
    obtain ⟨rfl, rfl, rfl⟩ := hcs
    have hzl : zs.length = c := by simpa using hz
    refine ⟨zs.take n, ⟨by rw [List.length_take]; omega, hl, hm, (fun h => by cases h), ?_, fun y hy => hwz y (List.mem_of_mem_take hy)⟩⟩
    by_cases h0 : n = 0
    · exact .inl h0
    · right
      obtain ⟨b, o, spot⟩ := x
      have hc0 := hcell 0 (by omega)
      have hspot : spot = none := by simpa [Addr.add] using World.cell?_spot hc0
      subst hspot
      refine ⟨b, o, rfl, ?_, fun i hi => ?_⟩
      · have := World.block_lt_of_cell? W _ hc0
        rw [add_plain] at this
        exact this
      · have hi' : i < zs.length := by rw [List.length_take] at hi; omega
        have := hcell i hi'
        rw [add_plain] at this
        rw [this]
        simp [List.getD, hi']

theorem open_bytes {H : Type} {enc : TypeId × Value → H} {P : Program} {W : World} {A : Option Addr} {n c : Nat} {t e : TypeId} {d : DataW H} {p : List MemPlace} (ht : P.underlying t = some (.slice e)) (he : P.underlying e = some (.int .u8)) (hc : P.cellsOf e = 1)
    (h : DataW.Trod enc P W 0 (fun _ => true) true t (.slice A n c) d p) : ∃ l, InB W A l n c := by
  obtain ⟨zs, hz⟩ := open_nums ht he hc h
  refine ⟨zs.map fun z => UInt8.ofNat z.toNat, ⟨?_, by rw [List.length_map]; exact hz.len, hz.cap, hz.max, hz.nil_⟩⟩
  rcases hz.at_ with h0 | ⟨b, o, e1, hb, hcell⟩
  · left
    have : zs = [] := List.eq_nil_of_length_eq_zero (by rw [hz.len, h0])
    rw [this]; rfl
  · right
    refine ⟨b, o, e1, hb, fun i hi => ?_⟩
    have hi' : i < zs.length := by simpa using hi
    rw [hcell i hi']
    have hw := hz.wf zs[i] (List.getElem_mem hi')
    have hr : 0 ≤ zs[i] ∧ zs[i] < 256 := by
      have e1 : IntKind.u8.min = 0 := by decide
      have e2 : IntKind.u8.max = 255 := by decide
      simp only [Lit.wf, e1, e2, Bool.and_eq_true, decide_eq_true_eq] at hw
      omega
    have : ((UInt8.ofNat (zs[i].toNat)).toNat : Int) = zs[i] := by
      rw [UInt8.toNat_ofNat']
      omega
    simp only [List.getElem_map]
    rw [this]

end Go.Proofs.Ytcplebbaiambgaa

/- append as one operation of a region. Nothing of the program is named here. -/
namespace Go.Proofs.Ytcplebbaiambgaa
set_option linter.unusedVariables false
set_option maxRecDepth 100000
set_option linter.unusedSimpArgs false
open Go.RowKit

/-- append of bytes, as one operation. -/
theorem op_app {P : Program} {o : Oper} {a : Act} {K : Act → World → Prop} {Q : Exit → Act → World → Prop} {w : World} (s x : Operand) (t e : TypeId)
    (ho : o.op = .call { callee := .builtin .append, args := #[s, x], argTypes := #[t, t] }) (ht : P.underlying t = some (.slice e))
    (hi : (P.info? e).map (fun i => (i.zero, i.size, i.bytes)) = some (some (.int .u8 0), 1, 1)) (B : Nat) (l : List UInt8) (A : Option Addr) (n c : Nat) (hs : a.eval s = .slice A n c) (hn : l.length = n) (hown : OB w B e A c l)
    (k : List UInt8) (ad : Addr) (m c' B' : Nat) (hx : a.eval x = .slice (some ad) m c') (hm : k.length = m) (hR : Rb w B' (some ad) k)
    (hlen : l.length + k.length ≤ 140737488355328) (hbase : B ≤ w.heap.size)
    (h : ∀ A2 c2 w', OB w' B e A2 c2 (l ++ k) → w.grownBy w' (Value.slice A n c).ownBlock → Below B w w' → K (a.put o.dst (.slice A2 (l ++ k).length c2)) w') : o.wp P a w K Q := by
  subst hn; subst hm
  obtain ⟨i, hi1, hz, hsz, hby⟩ := info_parts hi
  refine wp_append_own w s x t ho B e i (.int .u8 0) 1 1 ht hi1 hz hsz hby rfl (by decide) _ l.length (l.map u8) hs hown ad k.length c' (k.map u8) hx (by simp) ?_ ?_ (by unfold maxLen; omega) (by omega) hbase ?_
  · intro j u hu
    have hj : j < k.length := by
      rcases Nat.lt_or_ge j k.length with h1 | h1
      · exact h1
      · rw [List.getElem?_eq_none (by simpa using h1)] at hu; cases hu
    rcases hR with h0 | ⟨b, off, e1, _, hc⟩
    · subst h0; simp at hj
    · injection e1 with e1
      subst e1
      rw [add_plain, hc j hj]
      simp [hj] at hu
      exact congrArg some hu
  · intro u hu
    obtain ⟨b, _, rfl⟩ := List.mem_map.1 hu
    rfl
  · intro v' w' hown' hg _
    have hbel : Below B w w' := (Below.refl B w).grown hg hbase (fun k hk => (World.ownsRow.lt hown k hk).1)
    have hlen' : (l ++ k).length = l.length + k.length := List.length_append
    by_cases h0 : l ++ k = []
    · have h00 : l.length + k.length = 0 := by rw [← hlen', h0]; rfl
      rw [h00] at hown'
      rcases hown'.2 with ⟨rfl, _⟩ | ⟨g, cap, cur, rfl, _, r⟩
      · have := h none 0 w' (by rw [h0]; exact OB.nil w' B e) hg hbel
        rwa [h0] at this
      · have := h (some ⟨g, 0, none⟩) cap w' (by
          rw [h0]
          have e2 : List.map u8 l ++ List.map u8 k = [] := by rw [← List.map_append, h0]; rfl
          rw [e2] at hown'
          exact hown') hg hbel
        rwa [h0] at this
    · have hp : 0 < l.length + k.length := by rw [← hlen']; exact List.length_pos_iff.2 h0
      obtain ⟨g, cap, rfl, _, _⟩ := World.ownsRow.form hown' hp
      have := h (some ⟨g, 0, none⟩) cap w' (by unfold OB; rw [hlen', List.map_append]; exact hown') hg hbel
      rwa [hlen'] at this

/-- What the call owns stays owned where nothing that was there has turned. -/
theorem OB.stay {w w' : World} {B B' : Nat} {e : TypeId} {A : Option Addr} {c : Nat} {l : List UInt8} (h : OB w B e A c l) (hb : Below B' w w') (hB : w.heap.size ≤ B') : OB w' B e A c l := by
  refine ⟨h.1, ?_⟩
  rcases h.2 with hn | ⟨g, cap, cur, hv, hg, hh, r⟩
  · exact .inl hn
  · refine .inr ⟨g, cap, cur, hv, hg, ?_, r⟩
    rw [hb.block g (Nat.lt_of_lt_of_le (lt_of_block hh) hB)]
    exact hh

/-- What lies in another block than the row that has grown reads as it did. -/
theorem Rb.grown {w w' : World} {B : Nat} {g : Nat} {l : List UInt8} {row : Option Nat} (h : Rb w B (some ⟨g, 0, none⟩) l) (hg : w.grownBy w' row) (hlt : g < w.heap.size) (hne : row ≠ some g) : Rb w' B (some ⟨g, 0, none⟩) l := by
  rcases h with h | ⟨b, o, e, hb, hc⟩
  · exact .inl h
  · injection e with e
    injection e with e1 e2
    subst e1; subst e2
    exact .inr ⟨g, 0, rfl, hb, fun i hi => hg.cell (hc i hi) (fun h => hne h.symm)⟩

theorem OB.row {w : World} {B : Nat} {e : TypeId} {A : Option Addr} {n c : Nat} {l : List UInt8} (h : OB w B e A c l) (g : Nat) (hn : (Value.slice A n c).ownBlock = some g) : B ≤ g ∧ g < w.heap.size := by
  rcases h.2 with ⟨hv, _⟩ | ⟨g', cap, cur, hv, hb, hh, _⟩
  · injection hv with h1
    subst h1
    cases hn
  · injection hv with h1
    subst h1
    simp [Value.ownBlock] at hn
    subst hn
    exact ⟨hb, lt_of_block hh⟩

/-- The same, what is appended being nil or not. -/
theorem op_app_any {P : Program} {o : Oper} {a : Act} {K : Act → World → Prop} {Q : Exit → Act → World → Prop} {w : World} (s x : Operand) (t e : TypeId)
    (ho : o.op = .call { callee := .builtin .append, args := #[s, x], argTypes := #[t, t] }) (ht : P.underlying t = some (.slice e))
    (hi : (P.info? e).map (fun i => (i.zero, i.size, i.bytes)) = some (some (.int .u8 0), 1, 1)) (B : Nat) (l : List UInt8) (A : Option Addr) (n c : Nat) (hs : a.eval s = .slice A n c) (hn : l.length = n) (hown : OB w B e A c l)
    (k : List UInt8) (A' : Option Addr) (m c' B' : Nat) (hx : a.eval x = .slice A' m c') (hm : k.length = m) (hnil : A' = none → m = 0 ∧ c' = 0) (hR : Rb w B' A' k)
    (hlen : l.length + k.length ≤ 140737488355328) (hbase : B ≤ w.heap.size)
    (h : ∀ A2 c2 w', OB w' B e A2 c2 (l ++ k) → w.grownBy w' (Value.slice A n c).ownBlock → Below B w w' → K (a.put o.dst (.slice A2 (l ++ k).length c2)) w') : o.wp P a w K Q := by
  cases A' with
  | some ad => exact op_app s x t e ho ht hi B l A n c hs hn hown k ad m c' B' hx hm hR hlen hbase h
  | none =>
    obtain ⟨rfl, rfl⟩ := hnil rfl
    have hk : k = [] := List.eq_nil_of_length_eq_zero hm
    subst hk
    subst hn
    obtain ⟨i, hi1, hz, hsz, hby⟩ := info_parts hi
    have hrun := run_append_owned_none (P := P) (w := w) B t o.type e i 1 ht hi1 _ l.length (l.map u8) hown
    unfold Oper.wp
    simp [execOp, ho, resolve, invoke, builtin, hs, hx, hrun, Result.andThen]
    have := h A c w (by simpa using hown) (World.grownBy.refl w _) (Below.refl B w)
    exact (by simpa using this : K (a.put o.dst (Value.slice A l.length c)) w)
/-- append of a text's bytes, as one operation. -/
theorem op_app_str {P : Program} {o : Oper} {a : Act} {K : Act → World → Prop} {Q : Exit → Act → World → Prop} {w : World} (sl x : Operand) (t u e : TypeId)
    (ho : o.op = .call { callee := .builtin .append, args := #[sl, x], argTypes := #[t, u] }) (ht : P.underlying t = some (.slice e)) (hu : P.underlying u = some .string)
    (hi : (P.info? e).map (fun i => (i.zero, i.size, i.bytes)) = some (some (.int .u8 0), 1, 1)) (B : Nat) (l : List UInt8) (A : Option Addr) (n c : Nat) (hs : a.eval sl = .slice A n c) (hn : l.length = n) (hown : OB w B e A c l)
    (s : ByteArray) (hx : a.eval x = .string s) (hlen : l.length + s.size ≤ 140737488355328) (hbase : B ≤ w.heap.size)
    (h : ∀ A2 c2 w', OB w' B e A2 c2 (l ++ s.data.toList) → w.grownBy w' (Value.slice A n c).ownBlock → Below B w w' → K (a.put o.dst (.slice A2 (l ++ s.data.toList).length c2)) w') : o.wp P a w K Q := by
  subst hn
  obtain ⟨i, hi1, hz, hsz, hby⟩ := info_parts hi
  obtain ⟨v', w', hr, hown', hg, _⟩ := Go.Lib.run_append_own_string (P := P) w B t u o.type e i ht hu hi1 hz hsz hby _ l.length (l.map u8) hown s (by unfold maxLen; omega) (by omega) hbase
  have hK : K (a.put o.dst v') w' := by
    have hbel : Below B w w' := (Below.refl B w).grown hg hbase (fun k hk => (World.ownsRow.lt hown k hk).1)
    have hsl : s.data.toList.length = s.size := rfl
    have hlen' : (l ++ s.data.toList).length = l.length + s.size := by rw [List.length_append, hsl]
    have hst : Go.Lib.strCells s = s.data.toList.map u8 := rfl
    rw [hst, ← List.map_append] at hown'
    rw [← hlen'] at hown'
    by_cases h0 : l ++ s.data.toList = []
    · rw [h0] at hown'
      rcases hown'.2 with ⟨rfl, _⟩ | ⟨g, cap, cur, rfl, _, r⟩
      · have := h none 0 w' (by rw [h0]; exact OB.nil w' B e) hg hbel
        rwa [h0] at this
      · have := h (some ⟨g, 0, none⟩) cap w' (by rw [h0]; exact hown') hg hbel
        rwa [h0] at this
    · have hp : 0 < (l ++ s.data.toList).length := List.length_pos_iff.2 h0
      obtain ⟨g, cap, rfl, _, _⟩ := World.ownsRow.form hown' hp
      exact h (some ⟨g, 0, none⟩) cap w' hown' hg hbel
  unfold Oper.wp execOp
  simp only [ho, resolve, invoke, builtin, Sem.run_bind, Sem.run_pure, Result.andThen_ok, List.map_toArray, List.map_cons, List.map_nil, hs, hx, hr]
  exact hK
/-- An operation whose guard is met. -/
theorem wpList_wanted {P : Program} {ops : Array Oper} {Q : Exit → Act → World → Prop} {a : Act} {w : World} {rest : List Oper} {o : Oper} (hw : Region.wanted o (yielded ops a.tmps) = true)
    (h : ∀ K : Act → World → Prop, (∀ a w, wpList P ops Q rest a w → K a w) → o.wp P a w K Q) : wpList P ops Q (o :: rest) a w :=
  wpList_step fun K hK => by simp only [hw, if_true]; exact h K hK
theorem OB.drew {w : World} {B : Nat} {e : TypeId} {A : Option Addr} {c : Nat} {l : List UInt8} (h : OB w B e A c l) : OB w.drew B e A c l := World.ownsRow.drew h
theorem Rb.two {w : World} {t : TypeId} {a b : UInt8} : Rb (w.alloc (.cells #[.int .u8 (a.toNat : Int), .int .u8 (b.toNat : Int)] t)) (w.heap.size + 1) (some ⟨w.heap.size, 0, none⟩) [a, b] := Rb.bk (t := t) (l := [a, b]) (Bk.new w t _)
end Go.Proofs.Ytcplebbaiambgaa

/- Rows of structs that the call owns; append of rows of structs. -/
namespace Go.Proofs.Ytcplebbaiambgaa
set_option linter.unusedVariables false
set_option maxRecDepth 100000
set_option linter.unusedSimpArgs false
open Go.RowKit

def fl {β : Type} (f : β → Array Value) (l : List β) : List Value := l.flatMap fun x => (f x).toList
theorem fl_app {β : Type} (f : β → Array Value) (a b : List β) : fl f (a ++ b) = fl f a ++ fl f b := by simp [fl]
theorem fl_length {β : Type} {k : Nat} {f : β → Array Value} (hf : ∀ x, (f x).size = k) : ∀ l : List β, (fl f l).length = l.length * k
  | [] => by simp [fl]
  | x :: l => by
    have := fl_length hf l
    simp only [fl, List.flatMap_cons, List.length_append, Array.length_toList, hf, List.length_cons] at this ⊢
    rw [this, Nat.add_mul, Nat.one_mul, Nat.add_comm]
theorem fl_at {β : Type} {k : Nat} {f : β → Array Value} (hf : ∀ x, (f x).size = k) : ∀ (l : List β) (i : Nat) (h : i < l.length) (j : Nat), j < k → (fl f l)[i * k + j]? = (f l[i])[j]?
  | [], i, h, _, _ => by simp at h
  | x :: l, 0, h, j, hj => by
    simp only [fl, List.flatMap_cons, Nat.zero_mul, Nat.zero_add, List.getElem_cons_zero]
    rw [List.getElem?_append_left (by rw [Array.length_toList, hf]; exact hj), Array.getElem?_toList]
  | x :: l, i + 1, h, j, hj => by
    have := fl_at hf l i (by simpa using h) j hj
    simp only [fl, List.flatMap_cons, List.getElem_cons_succ] at this ⊢
    rw [List.getElem?_append_right (by rw [Array.length_toList, hf, Nat.add_mul]; omega), Array.length_toList, hf, Nat.add_mul, Nat.one_mul, ← this]
    congr 1
    omega
theorem fl_mem {β : Type} {f : β → Array Value} {l : List β} {u : Value} (h : u ∈ fl f l) : ∃ x ∈ l, u ∈ f x := by
  obtain ⟨x, hx, hu⟩ := List.mem_flatMap.1 h
  exact ⟨x, hx, by simpa using hu⟩
theorem fl_all {β : Type} {k : Nat} {f : β → Array Value} (hf : ∀ x, (f x).size = k) (hk : 0 < k) (l : List β) (q : Nat) (u : Value) (h : (fl f l)[q]? = some u) : ∃ i j, ∃ hi : i < l.length, j < k ∧ q = i * k + j ∧ (f l[i])[j]? = some u := by
  have hq : q < l.length * k := by
    have := (List.getElem?_eq_some_iff.1 h).1
    rwa [fl_length hf] at this
  have h1 : q / k < l.length := (Nat.div_lt_iff_lt_mul hk).2 hq
  have h2 := Nat.mod_lt q hk
  have h3 : q = q / k * k + q % k := by rw [Nat.mul_comm]; exact (Nat.div_add_mod q k).symm
  refine ⟨q / k, q % k, h1, h2, h3, ?_⟩
  rw [← fl_at hf l (q / k) h1 (q % k) h2, ← h3, h]

/-- How rows of a type lie. -/
structure Ro {β : Type} (P : Program) (t e : TypeId) (k by_ : Nat) (f : β → Array Value) : Prop where
  ht : P.underlying t = some (.slice e)
  hi : ∃ i z, P.info? e = some i ∧ i.zero = some z ∧ i.size = k ∧ i.bytes = by_ ∧ z.cells.size = k
  k0 : 0 < k
  fs : ∀ x, (f x).size = k
  one : ∀ x, ∀ u ∈ f x, u.oneCell' = true
  few : by_ ≤ 128

/-- The slice at A, of capacity c, owns the rows l: it lies at block B or behind it. -/
def Ow {β : Type} (e : TypeId) (k : Nat) (f : β → Array Value) (w : World) (B : Nat) (A : Option Addr) (c : Nat) (l : List β) : Prop := w.ownsRow B e k (.slice A l.length c) l.length (fl f l)

section
variable {β : Type} {P : Program} {t e : TypeId} {k by_ : Nat} {f : β → Array Value} {w w' : World} {B : Nat} {A : Option Addr} {c : Nat} {l : List β}

theorem Ow.nil (w : World) (B : Nat) : Ow e k f w B none 0 [] := World.ownsRow_nil w B e k
theorem Ow.rw_ (hf : ∀ x, (f x).size = k) (h : Ow e k f w B A c l) : Rw k f w A l := by
  by_cases h0 : l = []
  · exact .inl h0
  · have hp : 0 < l.length := List.length_pos_iff.2 h0
    obtain ⟨g, cap, hv, hb, hl⟩ := World.ownsRow.form h hp
    injection hv with h1 _ _
    subst h1
    refine .inr ⟨g, 0, rfl, hl, fun i hi j hj => ?_⟩
    have hlt : i * k + j < l.length * k := by
      have h2 : (i + 1) * k ≤ l.length * k := Nat.mul_le_mul_right k (by omega)
      rw [Nat.add_mul, Nat.one_mul] at h2
      omega
    have e1 := World.ownsRow.cellAt h (i * k + j) hlt
    rw [Nat.zero_add, e1, fl_at hf l i hi j hj]
theorem Ow.fit (h : Ow e k f w B A c l) : Fit A l.length c := by
  rcases h.2 with ⟨hv, h0⟩ | ⟨g, cap, cur, hv, _, _, hn, hm, _⟩
  · injection hv with h1 _ h3
    exact ⟨by omega, by omega, fun _ => ⟨h0, h3⟩⟩
  · injection hv with h1 _ h3
    unfold maxLen at hm
    exact ⟨by omega, by omega, fun e => by rw [e] at h1; cases h1⟩
/-- What the call owns stays owned where its block stays. -/
theorem Ow.keep (h : Ow e k f w B A c l) (hk : ∀ g cs, B ≤ g → Bk w g e cs → Bk w' g e cs) : Ow e k f w' B A c l := by
  refine ⟨h.1, ?_⟩
  rcases h.2 with hn | ⟨g, cap, cur, hv, hg, hh, r⟩
  · exact .inl hn
  · exact .inr ⟨g, cap, cur, hv, hg, hk g cur hg hh, r⟩
theorem Ow.set (h : Ow e k f w B A c l) {p : Addr} (hp : p.block < B) (v : Value) : Ow e k f (w.setCell p v) B A c l := h.keep fun g cs hg hh => hh.far (by omega) v
theorem Ow.on (h : Ow e k f w B A c l) (hb : Below w.heap.size w w') : Ow e k f w' B A c l := h.keep fun g cs _ hh => hh.below hb hh.lt
/-- Its block. -/
theorem Ow.block (h : Ow e k f w B A c l) (n : Nat) (g : Nat) (hn : (Value.slice A n c).ownBlock = some g) : B ≤ g ∧ g < w.heap.size ∧ ∃ cs, Bk w g e cs := by
  rcases h.2 with ⟨hv, _⟩ | ⟨g', cap, cur, hv, hb, hh, _⟩
  · injection hv with h1
    subst h1
    cases hn
  · injection hv with h1
    subst h1
    simp [Value.ownBlock] at hn
    subst hn
    exact ⟨hb, lt_of_block hh, cur, hh⟩
theorem Rw.bk {g : Nat} {t' : TypeId} {x : β} (h : Bk w g t' (f x)) : Rw k f w (some ⟨g, 0, none⟩) [x] :=
  .inr ⟨g, 0, rfl, h.lt, fun i hi j _ => by
    have hi0 : i = 0 := by simp at hi; omega
    subst hi0
    rw [h.cell]; simp⟩

/-- append of rows, as one operation. -/
theorem op_rows (R : Ro P t e k by_ f) {o : Oper} {a : Act} {K : Act → World → Prop} {Q : Exit → Act → World → Prop} (s x : Operand)
    (ho : o.op = .call { callee := .builtin .append, args := #[s, x], argTypes := #[t, t] }) (n : Nat) (hs : a.eval s = .slice A n c) (hn : l.length = n) (hown : Ow e k f w B A c l)
    (M : List β) (A' : Option Addr) (m c' : Nat) (hx : a.eval x = .slice A' m c') (hm : M.length = m) (hnil : A' = none → m = 0 ∧ c' = 0) (hR : Rw k f w A' M)
    (hlen : n + m ≤ 1099511627776) (hbase : B ≤ w.heap.size) (s' : Nat) (hsum : n + m = s')
    (h : ∀ A2 c2 w', Ow e k f w' B A2 c2 (l ++ M) → w.grownBy w' (Value.slice A n c).ownBlock → Below B w w' → K (a.put o.dst (.slice A2 s' c2)) w') : o.wp P a w K Q := by
  obtain ⟨i, z, hi1, hz, hsz, hby, hzc⟩ := R.hi
  subst hn; subst hm; subst hsum
  cases A' with
  | none =>
    obtain ⟨h0, rfl⟩ := hnil rfl
    have hk : M = [] := List.eq_nil_of_length_eq_zero h0
    subst hk
    have hrun := run_append_owned_none (P := P) (w := w) B t o.type e i k R.ht hi1 _ l.length (fl f l) hown
    unfold Oper.wp
    simp [execOp, ho, resolve, invoke, builtin, hs, hx, hrun, Result.andThen]
    have := h A c w (by simpa using hown) (World.grownBy.refl w _) (Below.refl B w)
    exact (by simpa using this : K (a.put o.dst (Value.slice A l.length c)) w)
  | some ad =>
    have hb8 : (l.length + M.length) * by_ ≤ 140737488355328 := Nat.le_trans (Nat.mul_le_mul hlen R.few) (by decide)
    refine wp_append_own w s x t ho B e i z k by_ R.ht hi1 hz hsz hby hzc R.k0 _ l.length (fl f l) hs hown ad M.length c' (fl f M) hx (fl_length R.fs M) ?_ ?_ (by unfold maxLen; omega) hb8 hbase ?_
    · intro q u hu
      obtain ⟨i', j, hi', hj, rfl, hv⟩ := fl_all R.fs R.k0 M q u hu
      rcases hR with h0 | ⟨b, o', e1, _, hc⟩
      · subst h0; simp at hi'
      · injection e1 with e1
        subst e1
        rw [add_plain, ← Nat.add_assoc, hc i' hi' j hj, hv]
    · intro u hu
      obtain ⟨y, _, hy⟩ := fl_mem hu
      exact R.one y u hy
    · intro v' w' hown' hg _
      have hbel : Below B w w' := (Below.refl B w).grown hg hbase (fun k hk => (World.ownsRow.lt hown k hk).1)
      have hlen' : (l ++ M).length = l.length + M.length := List.length_append
      rw [← fl_app] at hown'
      rw [← hlen'] at hown'
      by_cases h0 : l ++ M = []
      · rw [h0] at hown'
        rcases hown'.2 with ⟨rfl, _⟩ | ⟨g, cap, cur, rfl, _, r⟩
        · have := h none 0 w' (by rw [h0]; exact Ow.nil w' B) hg hbel
          rwa [← hlen', h0] at this
        · have := h (some ⟨g, 0, none⟩) cap w' (by rw [h0]; exact hown') hg hbel
          rwa [← hlen', h0] at this
      · have hp : 0 < (l ++ M).length := List.length_pos_iff.2 h0
        obtain ⟨g, cap, rfl, _, _⟩ := World.ownsRow.form hown' hp
        have := h (some ⟨g, 0, none⟩) cap w' hown' hg hbel
        rwa [← hlen'] at this
/-- The same, in a region that draws nothing. -/
theorem wp_rows (R : Ro P t e k by_ f) {ops : Array Oper} {rest : List Oper} {o : Oper} {a : Act} {Q : Exit → Act → World → Prop} (hw : Region.wanted o (yielded ops a.tmps) = true) (s x : Operand)
    (ho : o.op = .call { callee := .builtin .append, args := #[s, x], argTypes := #[t, t] }) (n : Nat) (hs : a.eval s = .slice A n c) (hn : l.length = n) (hown : Ow e k f w B A c l)
    (M : List β) (A' : Option Addr) (m c' : Nat) (hx : a.eval x = .slice A' m c') (hm : M.length = m) (hnil : A' = none → m = 0 ∧ c' = 0) (hR : Rw k f w A' M)
    (hlen : n + m ≤ 1099511627776) (hbase : B ≤ w.heap.size) (s' : Nat) (hsum : n + m = s')
    (h : ∀ A2 c2 w', Ow e k f w' B A2 c2 (l ++ M) → w.grownBy w' (Value.slice A n c).ownBlock → Below B w w' → wpList P ops Q rest (a.put o.dst (.slice A2 s' c2)) w') : wpList P ops Q (o :: rest) a w :=
  wpList_wanted hw fun K hK => op_rows R s x ho n hs hn hown M A' m c' hx hm hnil hR hlen hbase s' hsum (fun A2 c2 w' k1 k2 k3 => hK _ _ (h A2 c2 w' k1 k2 k3))
theorem wp_rows0 (R : Ro P t e k by_ f) {ops : Array Oper} {rest : List Oper} {o : Oper} {a : Act} {Q : Exit → Act → World → Prop} (hgd : o.guard = none) (s x : Operand)
    (ho : o.op = .call { callee := .builtin .append, args := #[s, x], argTypes := #[t, t] }) (n : Nat) (hs : a.eval s = .slice A n c) (hn : l.length = n) (hown : Ow e k f w B A c l)
    (M : List β) (A' : Option Addr) (m c' : Nat) (hx : a.eval x = .slice A' m c') (hm : M.length = m) (hnil : A' = none → m = 0 ∧ c' = 0) (hR : Rw k f w A' M)
    (hlen : n + m ≤ 1099511627776) (hbase : B ≤ w.heap.size) (s' : Nat) (hsum : n + m = s')
    (h : ∀ A2 c2 w', Ow e k f w' B A2 c2 (l ++ M) → w.grownBy w' (Value.slice A n c).ownBlock → Below B w w' → wpList P ops Q rest (a.put o.dst (.slice A2 s' c2)) w') : wpList P ops Q (o :: rest) a w :=
  wpList_plain hgd fun K hK => op_rows R s x ho n hs hn hown M A' m c' hx hm hnil hR hlen hbase s' hsum (fun A2 c2 w' k1 k2 k3 => hK _ _ (h A2 c2 w' k1 k2 k3))
/-- An empty row of its own. -/
theorem Ow.empty (w : World) (B : Nat) (hB : B ≤ w.heap.size) : Ow e k f (w.alloc (.cells #[] e)) B (some ⟨w.heap.size, 0, none⟩) 0 ([] : List β) := by
  have := World.ownsRow_lit (base := B) (e := e) (size := k) w #[] 0 hB (by unfold maxLen; omega) (by simp)
  exact this
end

theorem roN : Ro Try.prog 42 51 2 16 ncs := ⟨Try.underlying42, (by
  obtain ⟨i, h1, h2, h3, h4⟩ := info_parts (show (Try.prog.info? 51).map (fun i => (i.zero, i.size, i.bytes)) = some (some (.agg #[.int .u32 0, .int .i64 0]), 2, 16) by kernel_rfl)
  exact ⟨i, _, h1, h2, h3, h4, rfl⟩), by omega, fun _ => rfl, (fun x u hu => by simp at hu; rcases hu with rfl | rfl <;> rfl), by omega⟩
theorem roK : Ro Try.prog 43 56 3 40 kcs := ⟨Try.underlying43, (by
  obtain ⟨i, h1, h2, h3, h4⟩ := info_parts (show (Try.prog.info? 56).map (fun i => (i.zero, i.size, i.bytes)) = some (some (.agg #[.string ByteArray.empty, .string ByteArray.empty, .int .i64 0]), 3, 40) by kernel_rfl)
  exact ⟨i, _, h1, h2, h3, h4, rfl⟩), by omega, fun _ => rfl, (fun x u hu => by simp at hu; rcases hu with rfl | rfl | rfl <;> rfl), by omega⟩
theorem roT : Ro Try.prog 22 45 5 80 tcs := ⟨Try.underlying22, (by
  obtain ⟨i, h1, h2, h3, h4⟩ := info_parts (show (Try.prog.info? 45).map (fun i => (i.zero, i.size, i.bytes)) = some (some (.agg #[.string ByteArray.empty, .int .i64 0, .int .i64 0, .slice none 0 0, .slice none 0 0]), 5, 80) by kernel_rfl)
  exact ⟨i, _, h1, h2, h3, h4, rfl⟩), by omega, fun _ => rfl, (fun x u hu => by simp at hu; rcases hu with rfl | rfl | rfl | rfl | rfl <;> rfl), by omega⟩
abbrev ON (w : World) (B : Nat) (A : Option Addr) (c : Nat) (l : List Nt) : Prop := Ow 51 2 ncs w B A c l
abbrev OK (w : World) (B : Nat) (A : Option Addr) (c : Nat) (l : List Tk) : Prop := Ow 56 3 kcs w B A c l
abbrev OT (w : World) (B : Nat) (A : Option Addr) (c : Nat) (l : List Tv) : Prop := Ow 45 5 tcs w B A c l
end Go.Proofs.Ytcplebbaiambgaa

/- config: find, slices.Clone, Find, Token: their contracts. (Written by gen_cg4.py.) -/
namespace Go.Proofs.Ytcplebbaiambgaa
set_option linter.unusedVariables false
set_option maxRecDepth 100000
set_option linter.unusedSimpArgs false
open Go.RowKit

def nmEq (a b : ByteArray) : Bool := a.toList == b.toList
theorem nmEq_iff {a b : ByteArray} : nmEq a b = true ↔ a = b := by
  unfold nmEq
  rw [beq_iff_eq, ByteArray.toList_eq, ByteArray.toList_eq]
  constructor
  · intro h
    rw [← bs_of a, ← bs_of b, h]
  · intro h; rw [h]
def zeroTn : Tn := ⟨ByteArray.empty, 0, 0, [], []⟩
def zeroTv : Tv := ⟨zeroTn, none, 0, none, 0⟩
def zeroTk : Tk := ⟨ByteArray.empty, ByteArray.empty, 0⟩
def fT (s : ByteArray) (l : List Tv) : Option Tv := l.find? fun x => nmEq x.t.name s
def fK (s : ByteArray) (l : List Tk) : Option Tk := l.find? fun x => nmEq x.name s

theorem Bx.alloc {w u : World} {g : Nat} {t : TypeId} {cs : Array Value} (h : Bx w g t cs u) (o : Obj) : Bx w g t cs (u.alloc o) := ⟨h.b.alloc o, h.l.alloc h.l.size o⟩

end Go.Proofs.Ytcplebbaiambgaa

/- config: slices.Clone, Find, Token: their contracts. (Written by gen_cg5.py.) -/
namespace Go.Proofs.Ytcplebbaiambgaa
set_option linter.unusedVariables false
set_option maxRecDepth 100000
set_option linter.unusedSimpArgs false
open Go.RowKit

set_option maxRecDepth 100000 in
set_option maxHeartbeats 2000000 in
theorem cloneN_ok (A : Option Addr) (l : List Nt) (n c : Nat) (w : World) (h : RN w A l) (hf : Fit A n c) (hn : l.length = n) (hlen : n ≤ 1099511627776) :
    Calls Try.prog 24 #[.slice A n c] w fun e w' => ∃ A2 c2, e = .returned (.slice A2 n c2) ∧ ON w' w.heap.size A2 c2 l ∧ Below w.heap.size w w' := by
  have HR := Lib.hid h
  have HF := Lib.hid hf
  have HN := Lib.hid hn
  cases A with
  | none =>
    obtain ⟨rfl, rfl⟩ := hf.nil_ rfl
    clear h hf hn
    have he := Lib.run_eql_slice_nil (P := Try.prog) w 42 51 none 0 0 0 0 Try.underlying42
    simp only [Option.isNone_none] at he
    go_enter Try.func24, Try.ntmps24
    go_wp2
    go_ret
    obtain rfl : l = [] := List.eq_nil_of_length_eq_zero HN.out
    exact ⟨none, 0, rfl, Ow.nil _ _, Below.refl _ _⟩
  | some ad =>
    have HOW := Lib.hid (Ow.empty (e := 51) (k := 2) (f := ncs) w w.heap.size (Nat.le_refl _))
    have HR2 := Lib.hid (Rw.on h ((Below.refl w.heap.size w).alloc (Nat.le_refl _) (.cells #[] 51)))
    clear h hf hn
    have he := Lib.run_eql_slice_nil (P := Try.prog) w 42 51 (some ad) n c 0 0 Try.underlying42
    simp only [Option.isNone_some] at he
    go_enter Try.func24, Try.ntmps24
    go_wp2_with (at_builtin; refine wp_rows0 roN rfl (.tmp 5) (.tmp 6) rfl 0 rfl rfl HOW.out l _ n c rfl HN.out (fun h => by cases h) HR2.out (by omega) (by rw [World.size_alloc]; omega) n (by omega) ?_; intro A2 c2 w2 ho hg hb)
    go_ret
    exact ⟨A2, c2, rfl, ho, ((Below.refl w.heap.size w).alloc (Nat.le_refl _) _).trans hb⟩

end Go.Proofs.Ytcplebbaiambgaa

/- config.Find: its contract. -/
namespace Go.Proofs.Ytcplebbaiambgaa
set_option linter.unusedVariables false
set_option maxRecDepth 100000
set_option linter.unusedSimpArgs false
open Go.RowKit

theorem RT1.zero (w : World) : RT1 w zeroTv := ⟨.inl rfl, .inl rfl, ⟨Nat.le_refl _, by simp [zeroTv], fun _ => ⟨rfl, rfl⟩⟩, ⟨Nat.le_refl _, by simp [zeroTv], fun _ => ⟨rfl, rfl⟩⟩, (fun n hn => by cases hn), by decide, fun k hk => by cases hk⟩
theorem fT_mem {s : ByteArray} {l : List Tv} {x : Tv} (h : fT s l = some x) : x ∈ l ∧ nmEq x.t.name s = true := ⟨List.mem_of_find?_eq_some h, by have := List.find?_some h; exact this⟩
/-- What Find's own region keeps. -/
structure FdSt (w : World) (g : Nat) (nm : ByteArray) (a b : Int) (A3 A4 : Value) (u : World) : Prop where
  b : Bk u g 45 #[.string nm, .int .i64 a, .int .i64 b, A3, A4]
  r : Bk u (w.heap.size + 1) 45 #[.string ⟨#[]⟩, .int .i64 0, .int .i64 0, .slice none 0 0, .slice none 0 0]
  l : Below w.heap.size w u
  lt : w.heap.size + 2 ≤ g
theorem FdSt.on {w u u' : World} {g : Nat} {nm : ByteArray} {a b : Int} {A3 A4 : Value} (h : FdSt w g nm a b A3 A4 u) (hb : Below u.heap.size u u') : FdSt w g nm a b A3 A4 u' := ⟨h.b.below hb h.b.lt, h.r.below hb h.r.lt, h.l.trans (hb.mono h.l.size), h.lt⟩

theorem Ow.base {β : Type} {e : TypeId} {k : Nat} {f : β → Array Value} {w : World} {B B' : Nat} {A : Option Addr} {c : Nat} {l : List β} (h : Ow e k f w B A c l) (hB : B' ≤ B) : Ow e k f w B' A c l :=
  ⟨h.1, h.2.imp id fun ⟨g, cap, cur, hv, hg, r⟩ => ⟨g, cap, cur, hv, Nat.le_trans hB hg, r⟩⟩
end Go.Proofs.Ytcplebbaiambgaa

/- Configurations, there and back: plain mathematics. -/
namespace Go.Proofs.Ytcplebbaiambgaa
set_option linter.unusedVariables false
set_option maxRecDepth 100000
set_option linter.unusedSimpArgs false

/-! ### Words without blanks and ends -/

def fineW (w : List UInt8) : Prop := ∀ c ∈ w, 45 ≤ c.toNat
theorem fine_no {w : List UInt8} (h : fineW w) (c : UInt8) (hc : c.toNat < 45) : c ∉ w := fun k => by have := h c k; omega
theorem dec_fine (n : Nat) : fineW (decB n) := fun c h => by have := (dec_digit n c h).1; omega
theorem dots_fine (a : Nat) : fineW (dotsB a) := by
  intro c h
  unfold dotsB at h
  simp only [joinL, List.mem_append, List.mem_cons] at h
  rcases h with h | h | h | h | h | h | h
  · exact dec_fine _ c h
  · rw [h]; decide
  · exact dec_fine _ c h
  · rw [h]; decide
  · exact dec_fine _ c h
  · rw [h]; decide
  · exact dec_fine _ c h
theorem slash_fine (a : Nat) (b : Int) : fineW (slashL a b) := by
  unfold slashL
  split
  · intro c h
    rcases List.mem_append.1 h with h | h
    · exact dots_fine a c h
    · rcases List.mem_cons.1 h with h | h
      · rw [h]; decide
      · exact dec_fine _ c h
  · intro c h; cases h
theorem dig_fine (n : Nat) : 45 ≤ (dig n).toNat ∨ 16 ≤ n := by
  rcases Nat.lt_or_ge n 16 with h | h
  · left
    have : ∀ k : Fin 16, 45 ≤ (dig k.1).toNat := by decide
    exact this ⟨n, h⟩
  · exact .inr h
theorem hex_fine : ∀ l : List UInt8, fineW (hexB l)
  | [] => fun c h => by cases h
  | x :: r => by
    intro c h
    unfold hexB at h
    have hx := x.toNat_lt
    simp only [List.mem_cons] at h
    rcases h with h | h | h
    · rw [h]; rcases dig_fine (x.toNat / 16) with k | k <;> omega
    · rw [h]; rcases dig_fine (x.toNat % 16) with k | k <;> omega
    · exact hex_fine r c h
theorem name_fine (s : ByteArray) (h : nameB s = true) : fineW s.data.toList := by
  intro c hc
  unfold nameB at h
  simp only [Bool.and_eq_true, decide_eq_true_eq, List.all_eq_true] at h
  have := h.2 c hc
  unfold nmdB at this
  simp only [Bool.or_eq_true, Bool.and_eq_true, decide_eq_true_eq] at this
  omega

def fineL (ws : List (List UInt8)) : Prop := ws ≠ [] ∧ ∀ w ∈ ws, fineW w
theorem pieces_line {ws : List (List UInt8)} (h : fineL ws) : piecesL 32 (joinL 32 ws) = ws :=
  pieces_of 32 ws h.1 (fun p hp => fine_no (h.2 p hp) 32 (by decide))
theorem join_mem (c : UInt8) : ∀ ws : List (List UInt8), ∀ x ∈ joinL c ws, x = c ∨ ∃ w ∈ ws, x ∈ w
  | [], x, h => by cases h
  | [p], x, h => .inr ⟨p, by simp, h⟩
  | p :: q :: ps, x, h => by
    rw [joinL] at h
    rcases List.mem_append.1 h with h | h
    · exact .inr ⟨p, by simp, h⟩
    · rcases List.mem_cons.1 h with h | h
      · exact .inl h
      · rcases join_mem c (q :: ps) x h with h | ⟨w, h1, h2⟩
        · exact .inl h
        · exact .inr ⟨w, List.mem_cons_of_mem _ h1, h2⟩
theorem line_no {ws : List (List UInt8)} (h : fineL ws) : (10 : UInt8) ∉ joinL 32 ws := by
  intro k
  rcases join_mem 32 ws 10 k with k | ⟨w, h1, h2⟩
  · exact absurd k (by decide)
  · exact fine_no (h.2 w h1) 10 (by decide) h2
theorem lines_textT : ∀ (ls : List (List (List UInt8))) (r : List UInt8), (∀ ws ∈ ls, fineL ws) → linesL (textT ls ++ r) = ls.map (fun ws => (joinL 32 ws, true)) ++ linesL r
  | [], r, _ => rfl
  | ws :: ls, r, h => by
    have ih := lines_textT ls r (fun x hx => h x (List.mem_cons_of_mem _ hx))
    have e : textT (ws :: ls) ++ r = joinL 32 ws ++ 10 :: (textT ls ++ r) := by simp [textT, lineT]
    rw [e, lines_hit _ _ (line_no (h ws (by simp))), ih]; rfl

theorem rise_names : ∀ (l : List ByteArray) (last : ByteArray), rise last l = true → ∀ x ∈ l, nameB x = true
  | [], _, _, x, h => by cases h
  | y :: r, last, h, x, hx => by
    simp only [rise, Bool.and_eq_true] at h
    rcases List.mem_cons.1 hx with rfl | hx
    · exact h.1.1
    · exact rise_names r y h.2 x hx
theorem wTimes_fine : fineW wTimes := by intro c h; revert c; decide
theorem wTenant_fine : fineW wTenant := by intro c h; revert c; decide
theorem wNet_fine : fineW wNet := by intro c h; revert c; decide
theorem wToken_fine : fineW wToken := by intro c h; revert c; decide

theorem cfgB_parts {c : Cg} (h : cfgB c = true) : timB c.wait = true ∧ timB c.grace = true ∧ timB c.idle = true ∧ timB c.lease = true ∧ c.tens.length ≤ 8 ∧ rise ByteArray.empty (c.tens.map (·.name)) = true ∧ (∀ t ∈ c.tens, tenB t = true) := by
  unfold cfgB at h
  simp only [Bool.and_eq_true, decide_eq_true_eq, List.all_eq_true] at h
  obtain ⟨⟨⟨⟨⟨⟨a, b⟩, d⟩, e⟩, f⟩, g⟩, i⟩ := h
  exact ⟨a, b, d, e, f, g, i⟩
theorem cfgB_mk {c : Cg} (h : timB c.wait = true ∧ timB c.grace = true ∧ timB c.idle = true ∧ timB c.lease = true ∧ c.tens.length ≤ 8 ∧ rise ByteArray.empty (c.tens.map (·.name)) = true ∧ (∀ t ∈ c.tens, tenB t = true)) : cfgB c = true := by
  obtain ⟨a, b, d, e, f, g, i⟩ := h
  unfold cfgB
  simp only [Bool.and_eq_true, decide_eq_true_eq, List.all_eq_true]
  exact ⟨⟨⟨⟨⟨⟨a, b⟩, d⟩, e⟩, f⟩, g⟩, i⟩
theorem tenB_parts {t : Tn} (h : tenB t = true) : quoB t.names = true ∧ quoB t.visitors = true ∧ t.nets.length ≤ 4 ∧ (∀ n ∈ t.nets, netB n = true) ∧ t.toks.length ≤ 4 ∧ rise ByteArray.empty (t.toks.map (·.name)) = true ∧ (∀ k ∈ t.toks, tokB k = true) := by
  unfold tenB at h
  simp only [Bool.and_eq_true, decide_eq_true_eq, List.all_eq_true] at h
  obtain ⟨⟨⟨⟨⟨⟨a, b⟩, d⟩, e⟩, f⟩, g⟩, i⟩ := h
  exact ⟨a, b, d, e, f, g, i⟩
theorem tenB_mk {t : Tn} (h : quoB t.names = true ∧ quoB t.visitors = true ∧ t.nets.length ≤ 4 ∧ (∀ n ∈ t.nets, netB n = true) ∧ t.toks.length ≤ 4 ∧ rise ByteArray.empty (t.toks.map (·.name)) = true ∧ (∀ k ∈ t.toks, tokB k = true)) : tenB t = true := by
  obtain ⟨a, b, d, e, f, g, i⟩ := h
  unfold tenB
  simp only [Bool.and_eq_true, decide_eq_true_eq, List.all_eq_true]
  exact ⟨⟨⟨⟨⟨⟨a, b⟩, d⟩, e⟩, f⟩, g⟩, i⟩

theorem cfg_fine {c : Cg} (h : cfgB c = true) : ∀ ws ∈ cfgLs c, fineL ws := by
  obtain ⟨_, _, _, _, _, hr, ht⟩ := cfgB_parts h
  intro ws hw
  unfold cfgLs at hw
  rcases List.mem_cons.1 hw with rfl | hw
  · refine ⟨by simp [timesW], fun w hw => ?_⟩
    simp only [timesW, List.mem_cons, List.not_mem_nil, or_false] at hw
    rcases hw with rfl | rfl | rfl | rfl | rfl
    · exact wTimes_fine
    all_goals exact dec_fine _
  · obtain ⟨t, htm, hw⟩ := List.mem_flatMap.1 hw
    obtain ⟨_, _, _, _, _, kr, _⟩ := tenB_parts (ht t htm)
    unfold tenLs at hw
    rcases List.mem_cons.1 hw with rfl | hw
    · refine ⟨by simp [tenW], fun w hw => ?_⟩
      simp only [tenW, List.mem_cons, List.not_mem_nil, or_false] at hw
      rcases hw with rfl | rfl | rfl | rfl
      · exact wTenant_fine
      · exact name_fine _ (rise_names _ _ hr _ (List.mem_map.2 ⟨t, htm, rfl⟩))
      all_goals exact dec_fine _
    · rcases List.mem_append.1 hw with hw | hw
      · obtain ⟨n, _, rfl⟩ := List.mem_map.1 hw
        refine ⟨by simp [netW], fun w hw => ?_⟩
        simp only [netW, List.mem_cons, List.not_mem_nil, or_false] at hw
        rcases hw with rfl | rfl
        · exact wNet_fine
        · exact slash_fine _ _
      · obtain ⟨k, hk, rfl⟩ := List.mem_map.1 hw
        refine ⟨by simp [tokW], fun w hw => ?_⟩
        simp only [tokW, List.mem_cons, List.not_mem_nil, or_false] at hw
        rcases hw with rfl | rfl | rfl | rfl
        · exact wToken_fine
        · exact name_fine _ (rise_names _ _ kr _ (List.mem_map.2 ⟨k, hk, rfl⟩))
        · exact hex_fine _
        · exact dec_fine _

/-! ### What is printed is read -/

def runW : Cg → Nat → List (List (List UInt8)) → Option Cg
  | c, _, [] => some c
  | c, at', ws :: r => match lineC c (at' == 0) ws with
    | some c' => runW c' (at' + 1) r
    | none => none
theorem runW_app : ∀ (a b : List (List (List UInt8))) (c c' : Cg) (at' : Nat), runW c at' a = some c' → runW c at' (a ++ b) = runW c' (at' + a.length) b
  | [], b, c, c', at', h => by injection h with h; rw [h]; rfl
  | ws :: a, b, c, c', at', h => by
    rw [List.cons_append, runW]
    rw [runW] at h
    cases hl : lineC c (at' == 0) ws with
    | none => rw [hl] at h; cases h
    | some d =>
      rw [hl] at h
      simp only at h ⊢
      rw [runW_app a b d c' (at' + 1) h, List.length_cons]
      congr 1; omega
theorem runL_map : ∀ (ls : List (List (List UInt8))) (r : List (List UInt8 × Bool)) (c c' : Cg) (at' : Nat), (∀ ws ∈ ls, fineL ws) → runW c at' ls = some c' → runL c at' (ls.map (fun ws => (joinL 32 ws, true)) ++ r) = runL c' (at' + ls.length) r
  | [], r, c, c', at', _, h => by injection h with h; rw [h]; rfl
  | ws :: ls, r, c, c', at', hf, h => by
    rw [runW] at h
    rw [List.map_cons, List.cons_append, runL, if_pos rfl, pieces_line (hf ws (by simp))]
    cases hl : lineC c (at' == 0) ws with
    | none => rw [hl] at h; cases h
    | some d =>
      rw [hl] at h
      simp only at h ⊢
      rw [runL_map ls r d c' (at' + 1) (fun x hx => hf x (List.mem_cons_of_mem _ hx)) h, List.length_cons]
      congr 1; omega

theorem toNat_back {n : Int} (h0 : 0 ≤ n) (h1 : n ≤ 1099511627776) : decO (decB n.toNat) = some n.toNat ∧ ((n.toNat : Nat) : Int) = n := ⟨decO_back _ (by omega), by omega⟩

def cT (c : Cg) (T : List Tn) : Cg := { c with tens := T }
theorem tenB_pre {t : Tn} (h : tenB t = true) {n1 n2 : List Nt} {k1 k2 : List Tk} (hn : t.nets = n1 ++ n2) (hk : t.toks = k1 ++ k2) : tenB { t with nets := n1, toks := k1 } = true := by
  obtain ⟨a, b, d, e, f, g, i⟩ := tenB_parts h
  rw [hn] at d e
  rw [hk] at f g i
  rw [List.length_append] at d f
  rw [List.map_append] at g
  exact tenB_mk ⟨a, b, by show n1.length ≤ 4; omega, fun n hm => e n (List.mem_append.2 (.inl hm)), by show k1.length ≤ 4; omega, rise_app _ _ _ g, fun k hm => i k (List.mem_append.2 (.inl hm))⟩
theorem cfgB_pre {c : Cg} {T S : List Tn} {t t' : Tn} (h : cfgB (cT c (T ++ t :: S)) = true) (hn : t'.name = t.name) (ht : tenB t' = true) : cfgB (cT c (T ++ [t'])) = true := by
  obtain ⟨a, b, d, e, f, g, i⟩ := cfgB_parts h
  refine cfgB_mk ⟨a, b, d, e, ?_, ?_, ?_⟩
  · have f' : (T ++ t :: S).length ≤ 8 := f
    show (T ++ [t']).length ≤ 8
    rw [List.length_append, List.length_cons] at f'
    rw [List.length_append, List.length_singleton]; omega
  · have g' : rise ByteArray.empty ((T ++ t :: S).map (·.name)) = true := g
    show rise ByteArray.empty ((T ++ [t']).map (·.name)) = true
    have e1 : (T ++ t :: S).map (·.name) = (T ++ [t']).map (·.name) ++ S.map (·.name) := by simp [hn]
    rw [e1] at g'
    exact rise_app _ _ _ g'
  · intro x hx
    rcases List.mem_append.1 (show x ∈ T ++ [t'] from hx) with hx | hx
    · exact i x (List.mem_append.2 (.inl hx))
    · rw [List.mem_singleton.1 hx]; exact ht
theorem cfgB_pre0 {c : Cg} {T S : List Tn} (h : cfgB (cT c (T ++ S)) = true) : cfgB (cT c T) = true := by
  obtain ⟨a, b, d, e, f, g, i⟩ := cfgB_parts h
  have f' : (T ++ S).length ≤ 8 := f
  have g' : rise ByteArray.empty ((T ++ S).map (·.name)) = true := g
  rw [List.length_append] at f'
  rw [List.map_append] at g'
  exact cfgB_mk ⟨a, b, d, e, by show T.length ≤ 8; omega, rise_app _ _ _ g', fun x hx => i x (List.mem_append.2 (.inl hx))⟩

theorem kw1 : wTenant ≠ wTimes := by decide
theorem kw2 : wNet ≠ wTimes := by decide
theorem kw3 : wToken ≠ wTimes := by decide
theorem kw4 : wNet ≠ wTenant := by decide
theorem kw5 : wToken ≠ wTenant := by decide
theorem kw6 : wToken ≠ wNet := by decide
theorem lineC_of {c c' : Cg} {first : Bool} {ws : List (List UInt8)} (h1 : decide (ws.head? = some wTimes) = first) (h2 : readW c ws = some c') (h3 : cfgB c' = true) : lineC c first ws = some c' := by
  unfold lineC okC
  rw [if_pos h1, h2]
  simp only
  rw [if_pos h3]
theorem quo_le {n : Int} (h : quoB n = true) : 0 ≤ n ∧ n ≤ 8 := by simpa [quoB] using h
theorem tim_le {n : Int} (h : timB n = true) : 1 ≤ n ∧ n ≤ 1073741824 := by simpa [timB] using h

theorem run_nets (c : Cg) (T : List Tn) (t : Tn) (S : List Tn) (ht : cfgB (cT c (T ++ t :: S)) = true) (hlt : ∀ n ∈ t.nets, n.addr < 4294967296) : ∀ (n2 n1 : List Nt) (at' : Nat), t.nets = n1 ++ n2 → runW (cT c (T ++ [{ t with nets := n1, toks := [] }])) (at' + 1) (n2.map netW) = some (cT c (T ++ [{ t with nets := t.nets, toks := [] }]))
  | [], n1, at', h => by rw [List.append_nil] at h; rw [h]; rfl
  | x :: n2, n1, at', h => by
    have hT := tenB_parts ((cfgB_parts ht).2.2.2.2.2.2 t (by show t ∈ T ++ t :: S; simp))
    have hx := hT.2.2.2.1 x (by rw [h]; simp)
    have hb : tenB { t with nets := n1 ++ [x], toks := [] } = true := tenB_pre (t := t) ((cfgB_parts ht).2.2.2.2.2.2 t (by show t ∈ T ++ t :: S; simp)) (n2 := n2) (k2 := t.toks) (by rw [h]; simp) (by simp)
    have e1 : readW (cT c (T ++ [{ t with nets := n1, toks := [] }])) (netW x) = some (cT c (T ++ [{ t with nets := n1 ++ [x], toks := [] }])) := by
      unfold netW readW
      simp only [if_neg kw2, if_neg kw4, if_pos]
      unfold readNet lastC
      simp only [cT, List.getLast?_append, List.getLast?_singleton, Option.some_or, if_pos]
      have hb2 : rightB x.addr x.bits = true := hx
      rw [net_back x.addr x.bits (hlt x (by rw [h]; simp)) hb2]
      have hbits : ((x.bits.toNat : Nat) : Int) = x.bits := by
        unfold rightB at hb2
        simp only [Bool.and_eq_true, decide_eq_true_eq] at hb2
        omega
      simp only [setC, hbits]
      rw [List.dropLast_concat]
    rw [List.map_cons, runW]
    have e2 : lineC (cT c (T ++ [{ t with nets := n1, toks := [] }])) (at' + 1 == 0) (netW x) = some (cT c (T ++ [{ t with nets := n1 ++ [x], toks := [] }])) :=
      lineC_of (by rw [show (at' + 1 == 0) = false by simp]; simp [netW, kw2]) e1 (cfgB_pre ht rfl hb)
    rw [e2]
    simp only
    exact run_nets c T t S ht hlt n2 (n1 ++ [x]) (at' + 1) (by rw [h]; simp)

theorem run_toks (c : Cg) (T : List Tn) (t : Tn) (S : List Tn) (ht : cfgB (cT c (T ++ t :: S)) = true) : ∀ (k2 k1 : List Tk) (at' : Nat), t.toks = k1 ++ k2 → runW (cT c (T ++ [{ t with toks := k1 }])) (at' + 1) (k2.map tokW) = some (cT c (T ++ [t]))
  | [], k1, at', h => by rw [List.append_nil] at h; rw [← h]; rfl
  | x :: k2, k1, at', h => by
    have hTb := (cfgB_parts ht).2.2.2.2.2.2 t (by show t ∈ T ++ t :: S; simp)
    have hT := tenB_parts hTb
    have hx := hT.2.2.2.2.2.2 x (by rw [h]; simp)
    have hb : tenB { t with nets := t.nets, toks := k1 ++ [x] } = true := tenB_pre (t := t) hTb (n2 := []) (k2 := k2) (by simp) (by rw [h]; simp)
    have e1 : readW (cT c (T ++ [{ t with toks := k1 }])) (tokW x) = some (cT c (T ++ [{ t with toks := k1 ++ [x] }])) := by
      unfold tokW readW
      simp only [if_neg kw3, if_neg kw5, if_neg kw6, if_pos]
      unfold readToken lastC
      simp only [cT, List.getLast?_append, List.getLast?_singleton, Option.some_or, if_pos]
      unfold tokB at hx
      simp only [Bool.and_eq_true, decide_eq_true_eq] at hx
      obtain ⟨b1, b2⟩ := toNat_back hx.1.2 hx.2
      rw [unhexB_hexB, b1]
      simp only [setC, b2, bs_of]
      rw [List.dropLast_concat]
    rw [List.map_cons, runW]
    have e2 : lineC (cT c (T ++ [{ t with toks := k1 }])) (at' + 1 == 0) (tokW x) = some (cT c (T ++ [{ t with toks := k1 ++ [x] }])) :=
      lineC_of (by rw [show (at' + 1 == 0) = false by simp]; simp [tokW, kw3]) e1 (cfgB_pre ht rfl hb)
    rw [e2]
    simp only
    exact run_toks c T t S ht k2 (k1 ++ [x]) (at' + 1) (by rw [h]; simp)

def netsLt (c : Cg) : Prop := ∀ t ∈ c.tens, ∀ n ∈ t.nets, n.addr < 4294967296

theorem run_ten (c : Cg) (T : List Tn) (t : Tn) (S : List Tn) (ht : cfgB (cT c (T ++ t :: S)) = true) (hlt : ∀ n ∈ t.nets, n.addr < 4294967296) (at' : Nat) : runW (cT c T) (at' + 1) (tenLs t) = some (cT c (T ++ [t])) := by
  have hTb := (cfgB_parts ht).2.2.2.2.2.2 t (by show t ∈ T ++ t :: S; simp)
  have hT := tenB_parts hTb
  have hb : tenB { t with nets := [], toks := [] } = true := tenB_pre (t := t) hTb (n2 := t.nets) (k2 := t.toks) (by simp) (by simp)
  have e1 : readW (cT c T) (tenW t) = some (cT c (T ++ [{ t with nets := [], toks := [] }])) := by
    unfold tenW readW
    simp only [if_neg kw1, if_pos]
    unfold readTenant
    obtain ⟨a1, a2⟩ := toNat_back (n := t.names) (quo_le hT.1).1 (by have := (quo_le hT.1).2; omega)
    obtain ⟨b1, b2⟩ := toNat_back (n := t.visitors) (quo_le hT.2.1).1 (by have := (quo_le hT.2.1).2; omega)
    simp only [a1, b1, a2, b2, bs_of]
    rfl
  have e2 : lineC (cT c T) (at' + 1 == 0) (tenW t) = some (cT c (T ++ [{ t with nets := [], toks := [] }])) :=
    lineC_of (by rw [show (at' + 1 == 0) = false by simp]; simp [tenW, kw1]) e1 (cfgB_pre ht rfl hb)
  unfold tenLs
  rw [runW, e2]
  simp only
  rw [runW_app _ _ _ _ _ (run_nets c T t S ht hlt t.nets [] (at' + 1) rfl)]
  have := run_toks c T t S ht t.toks [] (at' + 1 + (t.nets.map netW).length) rfl
  rw [show at' + 1 + 1 + (t.nets.map netW).length = at' + 1 + (t.nets.map netW).length + 1 by omega]
  exact this

theorem run_tens (c : Cg) : ∀ (S T : List Tn) (at' : Nat), cfgB (cT c (T ++ S)) = true → (∀ t ∈ S, ∀ n ∈ t.nets, n.addr < 4294967296) → runW (cT c T) (at' + 1) (S.flatMap tenLs) = some (cT c (T ++ S))
  | [], T, at', _, _ => by rw [List.append_nil]; rfl
  | t :: S, T, at', h, hl => by
    rw [List.flatMap_cons, runW_app _ _ _ _ _ (run_ten c T t S h (hl t (by simp)) at')]
    have e : T ++ t :: S = (T ++ [t]) ++ S := by simp
    rw [e] at h ⊢
    have := run_tens c S (T ++ [t]) (at' + (tenLs t).length) h (fun x hx => hl x (List.mem_cons_of_mem _ hx))
    rw [show at' + 1 + (tenLs t).length = at' + (tenLs t).length + 1 by omega]
    exact this

theorem run_cfg {c : Cg} (h : cfgB c = true) (hl : netsLt c) : runW zeroC 0 (cfgLs c) = some c := by
  obtain ⟨a, b, d, e, _, _, _⟩ := cfgB_parts h
  have e1 : readW zeroC (timesW c) = some (cT c []) := by
    unfold timesW readW
    simp only [if_pos]
    unfold readTimes
    obtain ⟨a1, a2⟩ := toNat_back (n := c.wait) (by have := (tim_le a).1; omega) (by have := (tim_le a).2; omega)
    obtain ⟨b1, b2⟩ := toNat_back (n := c.grace) (by have := (tim_le b).1; omega) (by have := (tim_le b).2; omega)
    obtain ⟨d1, d2⟩ := toNat_back (n := c.idle) (by have := (tim_le d).1; omega) (by have := (tim_le d).2; omega)
    obtain ⟨f1, f2⟩ := toNat_back (n := c.lease) (by have := (tim_le e).1; omega) (by have := (tim_le e).2; omega)
    simp only [a1, b1, d1, f1, a2, b2, d2, f2]
    rfl
  have e2 : lineC zeroC (0 == 0) (timesW c) = some (cT c []) := lineC_of (by simp [timesW]) e1 (cfgB_pre0 (T := []) (S := c.tens) h)
  unfold cfgLs
  rw [runW, e2]
  simp only
  have := run_tens c c.tens [] 0 h hl
  rw [List.nil_append] at this
  exact this

/-- What is printed, with more behind it, is read. -/
theorem parse_more {c : Cg} (h : cfgB c = true) (hl : netsLt c) (r : List UInt8) : runL zeroC 0 (linesL (printT c ++ r)) = runL c (cfgLs c).length (linesL r) := by
  unfold printT
  rw [if_pos h, lines_textT _ _ (cfg_fine h), runL_map _ _ _ _ _ (cfg_fine h) (run_cfg h hl), Nat.zero_add]
theorem parse_print {c : Cg} (h : cfgB c = true) (hl : netsLt c) : parseC (bs (printT c)) = .ok c := by
  unfold parseC
  rw [bs_data]
  have := parse_more h hl []
  rw [List.append_nil] at this
  rw [this]
  simp [linesL, runL, cfgLs]

/-! ### What is read is printed -/

theorem setC_ls {c : Cg} {t t' : Tn} (h : lastC c = some t) (x : List (List UInt8)) (ht : tenLs t' = tenLs t ++ [x]) : cfgLs (setC c t') = cfgLs c ++ [x] := by
  unfold lastC at h
  obtain ⟨T, hT⟩ := List.getLast?_eq_some_iff.1 h
  unfold cfgLs setC
  simp only [timesW]
  rw [hT, List.dropLast_concat, List.flatMap_append, List.flatMap_append]
  simp [ht]
theorem readW_is {c c' : Cg} {ws : List (List UInt8)} (h : readW c ws = some c') : (ws.head? = some wTimes → cfgLs c' = ws :: c.tens.flatMap tenLs) ∧ (ws.head? ≠ some wTimes → cfgLs c' = cfgLs c ++ [ws]) := by
  cases ws with
  | nil => cases h
  | cons k ws =>
    unfold readW at h
    dsimp only at h
    by_cases h1 : k = wTimes
    · subst h1
      rw [if_pos rfl] at h
      refine ⟨fun _ => ?_, fun k => absurd rfl k⟩
      match ws, h with
      | [a, b, d, e], h =>
        simp only [readTimes] at h
        cases ha : decO a with
        | none => simp only [ha] at h; cases h
        | some a' =>
          cases hb : decO b with
          | none => simp only [ha, hb] at h; cases h
          | some b' =>
            cases hd : decO d with
            | none => simp only [ha, hb, hd] at h; cases h
            | some d' =>
              cases he : decO e with
              | none => simp only [ha, hb, hd, he] at h; cases h
              | some e' =>
                simp only [ha, hb, hd, he] at h
                injection h with h
                subst h
                simp only [cfgLs, timesW, Int.toNat_natCast]
                rw [(decO_is _ _ ha).2, (decO_is _ _ hb).2, (decO_is _ _ hd).2, (decO_is _ _ he).2]
    · rw [if_neg h1] at h
      refine ⟨fun q => absurd (by simpa using q) h1, fun _ => ?_⟩
      by_cases h2 : k = wTenant
      · subst h2
        rw [if_pos rfl] at h
        match ws, h with
        | [n, a, b], h =>
          simp only [readTenant] at h
          cases ha : decO a with
          | none => simp only [ha] at h; cases h
          | some a' =>
            cases hb : decO b with
            | none => simp only [ha, hb] at h; cases h
            | some b' =>
              simp only [ha, hb] at h
              injection h with h
              subst h
              simp only [cfgLs, timesW, List.flatMap_append, List.flatMap_cons, List.flatMap_nil, tenLs, tenW, Int.toNat_natCast, bs_data, List.map_nil, List.append_nil]
              rw [(decO_is _ _ ha).2, (decO_is _ _ hb).2]
              rfl
      · rw [if_neg h2] at h
        by_cases h3 : k = wNet
        · subst h3
          rw [if_pos rfl] at h
          match ws, h with
          | [n], h =>
            simp only [readNet] at h
            cases hl : lastC c with
            | none => simp only [hl] at h; cases h
            | some t =>
              simp only [hl] at h
              by_cases ht : t.toks = []
              · rw [if_pos ht] at h
                cases hn : netO (bs n) with
                | none => simp only [hn] at h; cases h
                | some x =>
                  simp only [hn] at h
                  injection h with h
                  subst h
                  refine setC_ls hl _ ?_
                  obtain ⟨x1, x2⟩ := x
                  have := bs_inj (net_is _ _ _ hn).2.2.2
                  simp only [tenLs, ht, List.map_nil, List.append_nil, List.map_append, List.map_cons, netW, tenW]
                  rw [this, List.cons_append]
              · rw [if_neg ht] at h; cases h
        · rw [if_neg h3] at h
          by_cases h4 : k = wToken
          · subst h4
            rw [if_pos rfl] at h
            match ws, h with
            | [n, s, u], h =>
              simp only [readToken] at h
              cases hl : lastC c with
              | none => simp only [hl] at h; cases h
              | some t =>
                simp only [hl] at h
                cases hs : unhexB s with
                | none => simp only [hs] at h; cases h
                | some b =>
                  cases hu : decO u with
                  | none => simp only [hs, hu] at h; cases h
                  | some v =>
                    simp only [hs, hu] at h
                    injection h with h
                    subst h
                    refine setC_ls hl _ ?_
                    simp only [tenLs, List.map_append, List.map_cons, List.map_nil, tokW, tenW, bs_data, Int.toNat_natCast]
                    rw [hexB_unhexB _ _ hs, (decO_is _ _ hu).2]
                    simp
          · rw [if_neg h4] at h; cases h
theorem lineC_is {c c' : Cg} {first : Bool} {ws : List (List UInt8)} (h : lineC c first ws = some c') : cfgB c' = true ∧ decide (ws.head? = some wTimes) = first ∧ readW c ws = some c' := by
  unfold lineC at h
  by_cases h1 : decide (ws.head? = some wTimes) = first
  · rw [if_pos h1] at h
    unfold okC at h
    cases hr : readW c ws with
    | none => rw [hr] at h; cases h
    | some d =>
      rw [hr] at h
      simp only at h
      by_cases hd : cfgB d = true
      · rw [if_pos hd] at h
        injection h with h
        subst h
        exact ⟨hd, h1, rfl⟩
      · rw [if_neg hd] at h; cases h
  · rw [if_neg h1] at h; cases h
theorem lineC_ls {c c' : Cg} {at' : Nat} {ws : List (List UInt8)} (h0 : at' = 0 → c.tens = []) (h : lineC c (at' == 0) ws = some c') : cfgB c' = true ∧ cfgLs c' = (if at' = 0 then [] else cfgLs c) ++ [ws] := by
  obtain ⟨h1, h2, h3⟩ := lineC_is h
  refine ⟨h1, ?_⟩
  obtain ⟨k1, k2⟩ := readW_is h3
  by_cases ha : at' = 0
  · subst ha
    rw [k1 (by simpa using h2), h0 rfl]; rfl
  · have e : (at' == 0) = false := by simpa using ha
    rw [e] at h2
    rw [k2 (by simpa using h2), if_neg ha]
theorem runL_is : ∀ (ls : List (List UInt8 × Bool)) (c c' : Cg) (at' : Nat), (at' = 0 → c.tens = []) → (at' ≠ 0 → cfgB c = true) → runL c at' ls = .ok c' →
    cfgB c' = true ∧ (∀ x ∈ ls, x.2 = true) ∧ textT (cfgLs c') = (if at' = 0 then [] else textT (cfgLs c)) ++ ls.flatMap fun x => x.1 ++ [10]
  | [], c, c', at', h0, h1, h => by
    rw [runL] at h
    by_cases ha : at' = 0
    · rw [if_pos ha] at h; cases h
    · rw [if_neg ha] at h
      injection h with h
      subst h
      exact ⟨h1 ha, (fun x hx => by cases hx), by rw [if_neg ha]; simp⟩
  | (l, e) :: r, c, c', at', h0, h1, h => by
    rw [runL] at h
    by_cases he : e = true
    · subst he
      rw [if_pos rfl] at h
      cases hl : lineC c (at' == 0) (piecesL 32 l) with
      | none => rw [hl] at h; cases h
      | some d =>
        rw [hl] at h
        simp only at h
        obtain ⟨g1, g2⟩ := lineC_ls h0 hl
        obtain ⟨i1, i2, i3⟩ := runL_is r d c' (at' + 1) (fun k => by omega) (fun _ => g1) h
        refine ⟨i1, fun x hx => ?_, ?_⟩
        · rcases List.mem_cons.1 hx with rfl | hx
          · rfl
          · exact i2 x hx
        · rw [i3, if_neg (by omega), g2]
          unfold textT
          rw [List.flatMap_append, List.flatMap_cons, List.flatMap_cons, List.flatMap_nil, List.append_nil, lineT, pieces_join]
          by_cases ha : at' = 0
          · rw [if_pos ha, if_pos ha]; simp
          · rw [if_neg ha, if_neg ha]; simp
    · rw [if_neg he] at h; cases h
theorem parse_isC (s : ByteArray) (c : Cg) (h : parseC s = .ok c) : cfgB c = true ∧ s = bs (printT c) := by
  unfold parseC at h
  obtain ⟨h1, h2, h3⟩ := runL_is _ _ _ _ (fun _ => rfl) (fun k => absurd rfl k) h
  refine ⟨h1, ?_⟩
  rw [if_pos rfl, List.nil_append, ← lines_text _ h2] at h3
  unfold printT
  rw [if_pos h1, h3, bs_of]
end Go.Proofs.Ytcplebbaiambgaa

/- A number that lies in its range. -/
namespace Go.Proofs.Ytcplebbaiambgaa
set_option linter.unusedVariables false
set_option maxRecDepth 100000
set_option linter.unusedSimpArgs false
open Go.RowKit
theorem iwrap (x : Int) (n : Nat) (h : x = (n : Int)) (hn : n ≤ 9223372036854775807) : IntKind.i64.wrap x = (n : Int) ∧ wrap64 x = (n : Int) := by
  subst h
  constructor
  · rw [IntKind.wrap_i64]; omega
  · unfold wrap64; omega
end Go.Proofs.Ytcplebbaiambgaa

/- Words turned: the contracts of right, turned, moved. -/
namespace Go.Proofs.Ytcplebbaiambgaa
set_option linter.unusedVariables false
set_option maxRecDepth 100000
set_option linter.unusedSimpArgs false
open Go.RowKit

theorem neg_and31 (n m : Nat) (h1 : 1 ≤ n) (h2 : n + m = 32) : bits .and .u64 (IntKind.u64.wrap (-(n : Int))) 31 = (m : Int) := by
  have e : IntKind.u64.wrap (-(n : Int)) = ((18446744073709551616 - n : Nat) : Int) := by rw [IntKind.wrap_u64]; omega
  have := u64_and_nat (18446744073709551616 - n) 31 (by omega) (by omega)
  rw [e]
  refine Eq.trans this ?_
  rw [nat_mask5]
  omega

theorem drewN_add (w : World) (a b : Nat) : (w.drewN a).drewN b = w.drewN (a + b) := by unfold World.drewN; simp [Nat.add_assoc]
theorem Below.drewN' {B : Nat} {a w : World} (h : Below B a w) (n : Nat) : Below B a (w.drewN n) := ⟨h.os, h.tape, h.output, h.size, h.block⟩

end Go.Proofs.Ytcplebbaiambgaa

/- The sixteen words of a block. -/
namespace Go.Proofs.Ytcplebbaiambgaa
set_option linter.unusedVariables false
set_option maxRecDepth 100000
set_option linter.unusedSimpArgs false
open Go.RowKit

end Go.Proofs.Ytcplebbaiambgaa

/- stretch: the schedule of a block's words. (Written by gen_stretch.py.) -/
namespace Go.Proofs.Ytcplebbaiambgaa
set_option linter.unusedVariables false
set_option maxRecDepth 100000
set_option linter.unusedSimpArgs false
open Go.RowKit

end Go.Proofs.Ytcplebbaiambgaa

/- Blocks of a row of bytes: what a part of it has for words. Nothing of the program is named here. -/
namespace Go.Proofs.Ytcplebbaiambgaa
set_option linter.unusedVariables false
set_option maxRecDepth 100000
set_option linter.unusedSimpArgs false
open Go.RowKit

theorem byteAt_part (l : List UInt8) (p j : Nat) (h : j < 64) : byteAt ((l.drop p).take 64) j = byteAt l (p + j) := by
  unfold byteAt
  rw [List.getD, List.getD, List.getElem?_take_of_lt h, List.getElem?_drop]
theorem words16_part (l : List UInt8) (p : Nat) : words16 ((l.drop p).take 64) 0 = words16 l p := by
  unfold words16
  apply List.map_congr_left
  intro i hi
  have hi' : i < 16 := List.mem_range.1 hi
  unfold wordAt
  rw [byteAt_part l p _ (by omega), byteAt_part l p _ (by omega), byteAt_part l p _ (by omega), byteAt_part l p _ (by omega)]
  rw [show p + (0 + 4 * i) = p + 4 * i by omega, show p + (0 + 4 * i + 1) = p + 4 * i + 1 by omega, show p + (0 + 4 * i + 2) = p + 4 * i + 2 by omega, show p + (0 + 4 * i + 3) = p + 4 * i + 3 by omega]
theorem byteAt_left (l r : List UInt8) (j : Nat) (h : j < l.length) : byteAt (l ++ r) j = byteAt l j := by
  unfold byteAt; rw [List.getD, List.getD, List.getElem?_append_left h]
theorem byteAt_right (l r : List UInt8) (j : Nat) : byteAt (l ++ r) (l.length + j) = byteAt r j := by
  unfold byteAt; rw [List.getD, List.getD, List.getElem?_append_right (by omega), Nat.add_sub_cancel_left]
theorem words16_left (l r : List UInt8) (p : Nat) (h : p + 64 ≤ l.length) : words16 (l ++ r) p = words16 l p := by
  unfold words16
  apply List.map_congr_left
  intro i hi
  have hi' : i < 16 := List.mem_range.1 hi
  unfold wordAt
  rw [byteAt_left l r _ (by omega), byteAt_left l r _ (by omega), byteAt_left l r _ (by omega), byteAt_left l r _ (by omega)]
theorem words16_right (l r : List UInt8) (p : Nat) : words16 (l ++ r) (l.length + p) = words16 r p := by
  unfold words16
  apply List.map_congr_left
  intro i hi
  unfold wordAt
  rw [show l.length + p + 4 * i = l.length + (p + 4 * i) by omega, show l.length + (p + 4 * i) + 1 = l.length + (p + 4 * i + 1) by omega, show l.length + (p + 4 * i) + 2 = l.length + (p + 4 * i + 2) by omega, show l.length + (p + 4 * i) + 3 = l.length + (p + 4 * i + 3) by omega]
  rw [byteAt_right, byteAt_right, byteAt_right, byteAt_right]
theorem thr_left (s : St) (l r : List UInt8) : ∀ n, 64 * n ≤ l.length → thr s (l ++ r) n = thr s l n
  | 0, _ => by rw [thr, thr]
  | n + 1, h => by rw [thr, thr, thr_left s l r n (by omega), words16_left l r _ (by omega)]
theorem thr_app (s : St) (l r : List UInt8) (m : Nat) (hl : l.length = 64 * m) : ∀ n, thr s (l ++ r) (m + n) = thr (thr s l m) r n
  | 0 => by rw [Nat.add_zero, thr_left s l r m (by omega), thr]
  | n + 1 => by
    rw [← Nat.add_assoc, thr, thr_app s l r m hl n, thr]
    have e : 64 * (m + n) = l.length + 64 * n := by omega
    rw [e, words16_right]
/-- Of bytes that a slice reads as, 64 from p on. -/
theorem Rb.part {w : World} {B b o p : Nat} {l : List UInt8} (h : Rb w B (some ⟨b, o, none⟩) l) : Rb w B (some ⟨b, o + p, none⟩) ((l.drop p).take 64) := by
  rcases h with h | ⟨b', o', e, hb, hc⟩
  · left; rw [h]; simp
  · injection e with e
    injection e with e1 e2
    subst e1; subst e2
    refine .inr ⟨b, o + p, rfl, hb, fun i hi => ?_⟩
    have hi1 : i < 64 ∧ p + i < l.length := by rw [List.length_take, List.length_drop] at hi; omega
    have := hc (p + i) hi1.2
    rw [← Nat.add_assoc] at this
    rw [this, List.getElem_take, List.getElem_drop]
end Go.Proofs.Ytcplebbaiambgaa

/- put: a number's bytes, the highest first; ending: what is put behind the bytes. -/
namespace Go.Proofs.Ytcplebbaiambgaa
set_option linter.unusedVariables false
set_option maxRecDepth 100000
set_option linter.unusedSimpArgs false
open Go.RowKit


/-- The last m bytes of a number, the highest first. -/
def be (m n : Nat) : List UInt8 := (List.range m).map fun i => UInt8.ofNat (n / 256 ^ (m - 1 - i))
theorem be_len (m n : Nat) : (be m n).length = m := by unfold be; rw [List.length_map, List.length_range]
theorem be_at (m n j : Nat) (h : j < m) : (be m n)[j]? = some (UInt8.ofNat (n / 256 ^ (m - 1 - j))) := by
  unfold be; rw [List.getElem?_map, List.getElem?_range h, Option.map_some]
theorem be8_eq (n : Nat) : be8 n = be 8 n := rfl
/-- What lies there when the last m - j bytes are written. -/
def part (x : List UInt8) (m n j : Nat) : List UInt8 := x.take j ++ (be m n).drop j
theorem part_full (x : List UInt8) (m n : Nat) (h : x.length = m) : part x m n m = x := by
  unfold part; rw [List.drop_of_length_le (by rw [be_len]; omega), List.append_nil, List.take_of_length_le (by omega)]
theorem part_none (x : List UInt8) (m n : Nat) : part x m n 0 = be m n := by
  unfold part; rw [List.take_zero, List.nil_append, List.drop_zero]
theorem part_len (x : List UInt8) (m n j : Nat) (h : x.length = m) (hj : j ≤ m) : (part x m n j).length = m := by
  unfold part; rw [List.length_append, List.length_take, List.length_drop, be_len]; omega
theorem part_step (p x q : List UInt8) (m n j : Nat) (h : x.length = m) (hj : j < m) :
    (bcells (p ++ part x m n (j + 1) ++ q)).setIfInBounds (p.length + j) (u8 (UInt8.ofNat (n / 256 ^ (m - 1 - j)))) = bcells (p ++ part x m n j ++ q) := by
  have e : (bcells (p ++ part x m n (j + 1) ++ q)).setIfInBounds (p.length + j) (u8 (UInt8.ofNat (n / 256 ^ (m - 1 - j)))) = bcells ((p ++ part x m n (j + 1) ++ q).set (p.length + j) (UInt8.ofNat (n / 256 ^ (m - 1 - j)))) := by
    unfold bcells; rw [List.setIfInBounds_toArray, List.map_set]
  rw [e]
  congr 1
  rw [List.append_assoc, List.append_assoc, List.set_append_right _ _ (by omega), Nat.add_sub_cancel_left]
  congr 1
  have hl := part_len x m n (j + 1) h (by omega)
  rw [List.set_append_left _ _ (by omega)]
  congr 1
  apply List.ext_getElem?
  intro k
  rw [List.getElem?_set]
  unfold part
  have ht : (x.take (j + 1)).length = j + 1 := by rw [List.length_take]; omega
  have ht2 : (x.take j).length = j := by rw [List.length_take]; omega
  by_cases hk : j = k
  · subst hk
    rw [if_pos rfl, if_pos (by rw [List.length_append, ht]; omega), List.getElem?_append_right (by omega), ht2, Nat.sub_self, List.getElem?_drop, Nat.add_zero, be_at m n j hj]
  · rw [if_neg hk]
    by_cases hk2 : k < j
    · rw [List.getElem?_append_left (by omega), List.getElem?_append_left (by omega), List.getElem?_take_of_lt (by omega), List.getElem?_take_of_lt hk2]
    · rw [List.getElem?_append_right (by omega), List.getElem?_append_right (by omega), ht, ht2, List.getElem?_drop, List.getElem?_drop]
      congr 1
      omega

end Go.Proofs.Ytcplebbaiambgaa

/- through: a state behind all blocks of a row of bytes. (Written by gen_through.py.) -/
namespace Go.Proofs.Ytcplebbaiambgaa
set_option linter.unusedVariables false
set_option maxRecDepth 100000
set_option linter.unusedSimpArgs false
open Go.RowKit

end Go.Proofs.Ytcplebbaiambgaa

/- stir: a state with a block's words stirred in. (Written by gen_stir.py.) -/
namespace Go.Proofs.Ytcplebbaiambgaa
set_option linter.unusedVariables false
set_option maxRecDepth 100000
set_option linter.unusedSimpArgs false
open Go.RowKit

end Go.Proofs.Ytcplebbaiambgaa

/- ending: what is put behind the whole blocks. -/
namespace Go.Proofs.Ytcplebbaiambgaa
set_option linter.unusedVariables false
set_option maxRecDepth 100000
set_option linter.unusedSimpArgs false
open Go.RowKit

/-- How many blocks the last bytes make. -/
def eblk (r : Nat) : Nat := if 64 < r + 9 then 2 else 1
def endB (l : List UInt8) (N : Nat) : List UInt8 := l ++ (128 :: List.replicate (64 * eblk l.length - 9 - l.length) 0) ++ be 8 (8 * N)

theorem splice_bytes (l : List UInt8) (M : Nat) (h : l.length ≤ M) : splice ((List.replicate M 0).map u8) 0 (l.map u8) = (l ++ List.replicate (M - l.length) 0).map u8 := by
  simp only [splice, List.take_zero, List.nil_append, List.length_map, Nat.zero_add, List.map_replicate, List.drop_replicate, List.map_append]
theorem mark_at (l : List UInt8) (k : Nat) : (bcells (l ++ List.replicate (k + 1) 0)).setIfInBounds l.length (u8 128) = bcells (l ++ (128 :: List.replicate k 0)) := by
  unfold bcells
  rw [List.setIfInBounds_toArray]
  congr 1
  rw [← List.map_set, List.set_append_right _ _ (Nat.le_refl _), Nat.sub_self, List.replicate_succ, List.set_cons_zero]

theorem src_of {w : World} {B : Nat} {A : Option Addr} {l : List UInt8} (h : Rb w B A l) (hp : 0 < (l.map u8).length) : ∃ ad, A = some ad ∧ ∀ j v, (l.map u8)[j]? = some v → w.cell? (ad.add j) = some v := by
  rcases h with h | ⟨b, o, e, _, hc⟩
  · subst h; simp at hp
  · refine ⟨_, e, fun j v hv => ?_⟩
    have hj : j < l.length := by
      obtain ⟨h1, _⟩ := List.getElem?_eq_some_iff.1 hv
      simpa using h1
    have hplain : (⟨b, o, none⟩ : Addr).add j = ⟨b, o + j, none⟩ := by unfold Addr.add; split <;> simp_all
    rw [hplain, hc j hj]
    simpa [hj] using hv
theorem end_facts (M r : Nat) (l : List UInt8) (g : Nat) (t : TypeId) (w : World) (hl : l.length = r) (hr : r + 9 ≤ M) (h : Hid (w.heap[g]? = some (.cells (splice ((List.replicate M 0).map u8) 0 (l.map u8)).toArray t (0, 0)))) :
    w.cell? ⟨g, r, none⟩ = some (.int .u8 0) ∧ w.frozen? ⟨g, r, none⟩ = false ∧ Bk (w.setCell ⟨g, r, none⟩ (.int .u8 128)) g t (bcells (l ++ (128 :: List.replicate (M - 9 - r) 0) ++ List.replicate 8 0 ++ [])) := by
  have h1 : Bk w g t (bcells (l ++ List.replicate (M - r) 0)) := by
    have := h.out
    rw [splice_bytes l M (by omega), hl] at this
    exact this
  refine ⟨?_, h1.frozen r, ?_⟩
  · rw [h1.cell, bcells_at _ r (by rw [List.length_append, List.length_replicate, hl]; omega)]
    have e : (l ++ List.replicate (M - r) (0 : UInt8))[r]? = some 0 := by
      rw [List.getElem?_append_right (by omega), hl, Nat.sub_self, List.getElem?_replicate, if_pos (by omega)]
    obtain ⟨hlt, he⟩ := List.getElem?_eq_some_iff.1 e
    rw [he]; rfl
  · have h2 := h1.set r (.int .u8 128)
    obtain ⟨k, hk⟩ : ∃ k, M - r = k + 1 := ⟨M - r - 1, by omega⟩
    have h3 := mark_at l k
    rw [hl] at h3
    rw [hk] at h2
    have e : (Value.int .u8 128) = Go.Proofs.Ytcplebbaiambgaa.u8 128 := rfl
    rw [e, h3] at h2
    have e2 : l ++ (128 :: List.replicate (M - 9 - r) 0) ++ List.replicate 8 0 ++ [] = l ++ (128 :: List.replicate k (0 : UInt8)) := by
      rw [List.append_nil, List.append_assoc, List.cons_append, List.replicate_append_replicate]
      congr 3
      omega
    rw [e2]
    exact h2

end Go.Proofs.Ytcplebbaiambgaa

/- What is put behind the bytes, by whole blocks and what is left. Nothing of the program is named here but its words of memory. -/
namespace Go.Proofs.Ytcplebbaiambgaa
set_option linter.unusedVariables false
set_option maxRecDepth 100000
set_option linter.unusedSimpArgs false
open Go.RowKit

theorem endB_len (d : List UInt8) (N : Nat) (h : d.length < 64) : (endB d N).length = 64 * eblk d.length := by
  have he : 9 + d.length ≤ 64 * eblk d.length := by unfold eblk; split <;> omega
  unfold endB
  rw [List.length_append, List.length_append, List.length_cons, List.length_replicate, be_len]
  omega
theorem pad_eq (l : List UInt8) (k : Nat) (h1 : 64 * k ≤ l.length) (h2 : l.length < 64 * k + 64) : pad l = l.take (64 * k) ++ endB (l.drop (64 * k)) l.length ∧ nblk l.length = k + eblk (l.drop (64 * k)).length := by
  have hd : (l.drop (64 * k)).length = l.length - 64 * k := List.length_drop
  have hn : nblk l.length = k + eblk (l.drop (64 * k)).length := by
    rw [hd]; unfold nblk eblk; split <;> omega
  refine ⟨?_, hn⟩
  unfold pad endB
  rw [hn, be8_eq, ← List.append_assoc, ← List.append_assoc, List.take_append_drop]
  congr 4
  rw [hd]; omega
theorem sum_eq (l : List UInt8) (k : Nat) (h1 : 64 * k ≤ l.length) (h2 : l.length < 64 * k + 64) :
    sum l = outB (thr (thr S0 (l.take (64 * k)) k) (endB (l.drop (64 * k)) l.length) (eblk (l.drop (64 * k)).length)) := by
  obtain ⟨e1, e2⟩ := pad_eq l k h1 h2
  unfold sum
  rw [e1, e2, thr_app S0 _ _ k (by rw [List.length_take]; omega)]
/-- The first words' bytes. -/
def pfx (s : St) : Nat → List UInt8
  | 0 => []
  | n + 1 => pfx s n ++ be 4 (s.list.getD n 0)
theorem pfx_len (s : St) : ∀ n, (pfx s n).length = 4 * n
  | 0 => rfl
  | n + 1 => by rw [pfx, List.length_append, pfx_len s n, be_len]; omega
theorem pfx_out (s : St) : pfx s 8 = outB s := by
  simp [pfx, outB, be, St.list, List.range_succ]
end Go.Proofs.Ytcplebbaiambgaa

/- Parts of a slice of bytes; a slice expression in a region that draws its order, and in one that does not. -/
namespace Go.Proofs.Ytcplebbaiambgaa
set_option linter.unusedVariables false
set_option maxRecDepth 100000
set_option linter.unusedSimpArgs false
open Go.RowKit

theorem yieldsIf_slice {P : Program} {ops : Array Oper} {S : World → Prop} {oi : Oper} {a : Act} (hw : Region.wanted oi (yielded ops a.tmps) = true) (t : TypeId) (x : Operand) (lo hi : Option Operand) (ho : oi.op = .slice t x lo hi none) (v : Value)
    (h : ∀ w, (Instr.sliceAt t (a.eval x) (lo.map a.eval) (hi.map a.eval) none).run P w = .ok v w) : YieldsIf P ops S oi v a :=
  .inl ⟨hw, fun w _ => by
    unfold execOp
    simp only [ho, Sem.run_bind, Option.map_none, h w, Result.andThen_ok, Sem.run_pure]⟩

/-- Where b[lo:] lies. -/
def tailA (A : Option Addr) (c lo : Nat) : Option Addr := if c = lo then A else A.map (·.add (lo * 1))
theorem tailA_none (A : Option Addr) (c lo : Nat) (h : tailA A c lo = none) : A = none := by
  unfold tailA at h
  split at h
  · exact h
  · cases A with
    | none => rfl
    | some a => cases h
theorem Rb.tail {w : World} {B : Nat} {A : Option Addr} {l : List UInt8} {c : Nat} (h : Rb w B A l) (lo : Nat) (hc : l.length ≤ c) : Rb w B (tailA A c lo) (l.drop lo) := by
  by_cases h0 : l.drop lo = []
  · left; exact h0
  · have hlo : lo < l.length := by
      rcases Nat.lt_or_ge lo l.length with h1 | h1
      · exact h1
      · exact absurd (List.drop_of_length_le h1) h0
    rcases h with h | ⟨b, o, e, hb, hcl⟩
    · rw [h] at hlo; simp at hlo
    · subst e
      have e2 : tailA (some ⟨b, o, none⟩) c lo = some ⟨b, o + lo, none⟩ := by
        unfold tailA
        rw [if_neg (by omega)]
        simp only [Option.map_some, Nat.mul_one, Addr.add]
        split <;> simp_all
      rw [e2]
      refine .inr ⟨b, o + lo, rfl, hb, fun i hi => ?_⟩
      have hi' : lo + i < l.length := by rw [List.length_drop] at hi; omega
      have := hcl (lo + i) hi'
      rw [← Nat.add_assoc] at this
      rw [this, List.getElem_drop]
theorem Rb.front {w : World} {B : Nat} {A : Option Addr} {l : List UInt8} (h : Rb w B A l) (n : Nat) : Rb w B A (l.take n) := by
  rcases h with h | ⟨b, o, e, hb, hc⟩
  · left; rw [h]; simp
  · refine .inr ⟨b, o, e, hb, fun i hi => ?_⟩
    have hi' : i < l.length := by rw [List.length_take] at hi; omega
    rw [hc i hi', List.getElem_take]
theorem slice_fr (A : Option Addr) (n c lo : Nat) (h : lo ≤ n) (hc : n ≤ c) (u : World) : (Instr.sliceAt 94 (.slice A n c) (some (.int .i64 (lo : Int))) none none).run Try.prog u = .ok (.slice (tailA A c lo) (n - lo) (c - lo)) u := by
  have h1 : (lo : Int) ≤ (n : Int) := by omega
  unfold tailA
  go_simp
/-- b[lo:] in a region that draws nothing. -/
theorem wpList_from {P : Program} {ops : Array Oper} {rest : List Oper} {o : Oper} {a : Act} {Q : Exit → Act → World → Prop} {w : World} (hgd : o.guard = none) (t : TypeId) (x lo : Operand) (ho : o.op = .slice t x (some lo) none none) (vx vl v : Value) (hx : a.eval x = vx) (hl : a.eval lo = vl)
    (hr : (Instr.sliceAt t vx (some vl) none none).run P w = .ok v w) (h : wpList P ops Q rest (a.put o.dst v) w) : wpList P ops Q (o :: rest) a w :=
  wpList_plain hgd fun _ hK => by
    unfold Oper.wp execOp
    simp only [ho, Option.map_some, Option.map_none, hx, hl, Sem.run_bind, hr, Result.andThen_ok, Sem.run_pure]
    exact hK _ _ h
end Go.Proofs.Ytcplebbaiambgaa

/- Parts of a slice of bytes. -/
namespace Go.Proofs.Ytcplebbaiambgaa
end Go.Proofs.Ytcplebbaiambgaa

/- Sum: the sum of any bytes. (Written by gen_sum.py.) -/
namespace Go.Proofs.Ytcplebbaiambgaa
set_option linter.unusedVariables false
set_option maxRecDepth 100000
set_option linter.unusedSimpArgs false
open Go.RowKit

theorem slice_toS (A : Option Addr) (n c hi : Nat) (h : hi ≤ c) (u : World) : (Instr.sliceAt 94 (.slice A n c) none (some (.int .i64 (hi : Int))) none).run Try.prog u = .ok (.slice A hi c) u := by
  have h1 : (hi : Int) ≤ (c : Int) := by omega
  have h2 : ¬ c = 0 ∨ A = A := .inr rfl
  go_simp
theorem slice_from (A : Option Addr) (n c lo : Nat) (h : lo ≤ n) (hc : n ≤ c) (u : World) : (Instr.sliceAt 94 (.slice A n c) (some (.int .i64 (lo : Int))) none none).run Try.prog u = .ok (.slice (tailA A c lo) (n - lo) (c - lo)) u := by
  have h1 : (lo : Int) ≤ (n : Int) := by omega
  unfold tailA
  go_simp
theorem S0_val : (H0.map wd).toArray = s8 S0 := rfl
theorem bcells_one (l : List UInt8) : (bcells l).all (·.oneCell') = true := by
  rw [Array.all_eq_true_iff_forall_mem]
  intro v hv
  simp only [bcells, List.mem_toArray, List.mem_map] at hv
  obtain ⟨x, _, rfl⟩ := hv
  rfl

end Go.Proofs.Ytcplebbaiambgaa

/- The sum's length, and 32 bytes in memory. -/
namespace Go.Proofs.Ytcplebbaiambgaa
set_option linter.unusedVariables false
set_option maxRecDepth 100000
set_option linter.unusedSimpArgs false
open Go.RowKit

theorem sum_len (l : List UInt8) : (sum l).length = 32 := by unfold sum outB; rw [List.length_map, List.length_range]
end Go.Proofs.Ytcplebbaiambgaa

/- num.Text: its contract. -/
namespace Go.Proofs.Ytcplebbaiambgaa
set_option linter.unusedVariables false
set_option maxRecDepth 100000
set_option linter.unusedSimpArgs false
open Go.RowKit

/-- A text's bytes; nothing, if it is too long. -/
def textB (s : ByteArray) : List UInt8 := if s.size ≤ 255 then UInt8.ofNat s.size :: s.data.toList else []

theorem byInfo : (Try.prog.info? 5).map (fun i => (i.zero, i.size, i.bytes)) = some (some (.int .u8 0), 1, 1) := by kernel_rfl

end Go.Proofs.Ytcplebbaiambgaa

/- Sums under keys (HMAC), proofs of words: what the document asks, as Lean functions. -/
namespace Go.Proofs.Ytcplebbaiambgaa
set_option linter.unusedVariables false
set_option maxRecDepth 100000
set_option linter.unusedSimpArgs false
open Go.RowKit

/-- A key of at most 64 bytes. -/
def shortK (key : List UInt8) : List UInt8 := if 64 < key.length then sum key else key
/-- A key of 64 bytes. -/
def keyB (key : List UInt8) : List UInt8 := shortK key ++ List.replicate (64 - (shortK key).length) 0
def padB (key : List UInt8) (c : UInt8) : List UInt8 := (keyB key).map fun x => x ^^^ c
def macB (key b : List UInt8) : List UInt8 := sum (padB key 92 ++ sum (padB key 54 ++ b))
theorem shortK_len (key : List UInt8) : (shortK key).length ≤ 64 := by
  unfold shortK
  split
  · rw [sum_len]; decide
  · omega
theorem keyB_len (key : List UInt8) : (keyB key).length = 64 := by
  have := shortK_len key
  unfold keyB; rw [List.length_append, List.length_replicate]; omega
theorem padB_len (key : List UInt8) (c : UInt8) : (padB key c).length = 64 := by unfold padB; rw [List.length_map, keyB_len]
theorem macB_len (key b : List UInt8) : (macB key b).length = 32 := sum_len _
theorem keyB_long (key : List UInt8) (h : 64 < key.length) : keyB key = keyB (sum key) := by
  have e1 : shortK key = sum key := by unfold shortK; rw [if_pos h]
  have e2 : shortK (sum key) = sum key := by unfold shortK; rw [if_neg (by rw [sum_len]; decide)]
  unfold keyB; rw [e1, e2]
theorem macB_long (key b : List UInt8) (h : 64 < key.length) : macB key b = macB (sum key) b := by
  unfold macB padB; rw [keyB_long key h]
theorem keyB_zeros (key : List UInt8) (n : Nat) (h : key.length + n ≤ 64) : keyB (key ++ List.replicate n 0) = keyB key := by
  have e1 : shortK key = key := by unfold shortK; rw [if_neg (by omega)]
  have e2 : shortK (key ++ List.replicate n 0) = key ++ List.replicate n 0 := by unfold shortK; rw [if_neg (by rw [List.length_append, List.length_replicate]; omega)]
  unfold keyB; rw [e1, e2, List.append_assoc, List.replicate_append_replicate, List.length_append, List.length_replicate]
  congr 2; omega
theorem macB_zeros (key b : List UInt8) (n : Nat) (h : key.length + n ≤ 64) : macB (key ++ List.replicate n 0) b = macB key b := by
  unfold macB padB; rw [keyB_zeros key n h]
set_option maxRecDepth 100000 in
theorem macB_fox : hexB (macB [107, 101, 121] [84, 104, 101, 32, 113, 117, 105, 99, 107, 32, 98, 114, 111, 119, 110, 32, 102, 111, 120, 32, 106, 117, 109, 112, 115, 32, 111, 118, 101, 114, 32, 116, 104, 101, 32, 108, 97, 122, 121, 32, 100, 111, 103]) = [102, 55, 98, 99, 56, 51, 102, 52, 51, 48, 53, 51, 56, 52, 50, 52, 98, 49, 51, 50, 57, 56, 101, 54, 97, 97, 54, 102, 98, 49, 52, 51, 101, 102, 52, 100, 53, 57, 97, 49, 52, 57, 52, 54, 49, 55, 53, 57, 57, 55, 52, 55, 57, 100, 98, 99, 50, 100, 49, 97, 51, 99, 100, 56] := by decide +kernel

theorem ofInt8 (x : UInt8) : BitVec.ofInt 8 (x.toNat : Int) = x.toBitVec := by
  rw [BitVec.ofInt_natCast]; simp
theorem b_xor (x y : UInt8) : bits .xor .u8 (x.toNat : Int) (y.toNat : Int) = ((x ^^^ y).toNat : Int) := by
  have h : (x ^^^ y).toNat < 256 := (x ^^^ y).toNat_lt
  show IntKind.u8.wrap ((BitVec.ofInt 8 (x.toNat : Int) ^^^ BitVec.ofInt 8 (y.toNat : Int)).toNat : Int) = _
  rw [ofInt8, ofInt8, IntKind.wrap_u8]
  have e : (x.toBitVec ^^^ y.toBitVec).toNat = (x ^^^ y).toNat := rfl
  rw [e]; omega
theorem b_or (x y : UInt8) : bits .or .u8 (x.toNat : Int) (y.toNat : Int) = ((x ||| y).toNat : Int) := by
  have h : (x ||| y).toNat < 256 := (x ||| y).toNat_lt
  show IntKind.u8.wrap ((BitVec.ofInt 8 (x.toNat : Int) ||| BitVec.ofInt 8 (y.toNat : Int)).toNat : Int) = _
  rw [ofInt8, ofInt8, IntKind.wrap_u8]
  have e : (x.toBitVec ||| y.toBitVec).toNat = (x ||| y).toNat := rfl
  rw [e]; omega
theorem or_zero (x y : UInt8) : (x ||| y) = 0 ↔ x = 0 ∧ y = 0 := UInt8.or_eq_zero_iff
theorem xor_zero (x y : UInt8) : (x ^^^ y) = 0 ↔ x = y := UInt8.xor_eq_zero_iff

/-- The texts of words, one behind the other. -/
def textsB (ws : List ByteArray) : List UInt8 := (ws.map textB).flatten
theorem textsB_take (ws : List ByteArray) (i : Nat) (h : i < ws.length) : textsB (ws.take (i + 1)) = textsB (ws.take i) ++ textB ws[i] := by
  unfold textsB
  rw [List.take_add_one, List.getElem?_eq_getElem h, List.map_append, List.flatten_append]
  simp
def proofB (key : List UInt8) (ws : List ByteArray) : List UInt8 := if (∀ x ∈ ws, x.size ≤ 255) then hexB (macB key (textsB ws)) else []
end Go.Proofs.Ytcplebbaiambgaa

/- string(b) in a region that draws its order. Nothing of the program is named here. -/
namespace Go.Proofs.Ytcplebbaiambgaa
set_option linter.unusedVariables false
set_option maxRecDepth 100000
set_option linter.unusedSimpArgs false
open Go.RowKit

theorem yieldsIf_conv {P : Program} {ops : Array Oper} {S : World → Prop} {oi : Oper} {a : Act} (hw : Region.wanted oi (yielded ops a.tmps) = true) (src e dst : TypeId) (x : Operand) (ho : oi.op = .convert src dst x)
    (A : Option Addr) (n c : Nat) (l : List UInt8) (hx : a.eval x = .slice A n c) (hn : l.length = n) {B : World → Nat} (hR : ∀ w, S w → Rb w (B w) A l) (hs : P.underlying src = some (.slice e)) (he : P.underlying e = some (.int .u8)) (hd : P.underlying dst = some .string) : YieldsIf P ops S oi (.string (bs l)) a :=
  .inl ⟨hw, fun w hw' => by
    unfold execOp
    simp only [ho, hx, Sem.run_bind, str_of (hR w hw') src e dst hs he hd n c hn, Result.andThen_ok, Sem.run_pure, bs]⟩
end Go.Proofs.Ytcplebbaiambgaa
