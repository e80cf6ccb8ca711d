/- CgR, CgO, RowsAt: texts of this seat, one behind the other. -/
import Derived.Test.YtinjldjpncijjaaG3
import Derived.Test.YtinjldjpncijjaaG1
import Derived.Test.YtinjldjpncijjaaRows
import Derived.Test.YtinjldjpncijjaaG2
import Derived.Maps.AppendAt
/- Configurations in memory: rows of structs that slices read as. -/
namespace Go.Proofs.Ytinjldjpncijjaa
set_option linter.unusedVariables false
set_option maxRecDepth 100000
set_option linter.unusedSimpArgs false
open Go.RowKit

/-- The slice at A reads as the rows l, of k cells each. -/
def Rw {β : Type} (k : Nat) (f : β → Array Value) (w : World) (A : Option Addr) (l : List β) : Prop :=
  l = [] ∨ ∃ b o, A = some ⟨b, o, none⟩ ∧ b < w.heap.size ∧ ∀ i, (h : i < l.length) → ∀ j, j < k → w.cell? ⟨b, o + i * k + j, none⟩ = (f l[i])[j]?
theorem Rw.nil {β : Type} {k : Nat} {f : β → Array Value} {w : World} {A : Option Addr} : Rw k f w A [] := .inl rfl
theorem Rw.on {β : Type} {k : Nat} {f : β → Array Value} {w w' : World} {A : Option Addr} {l : List β} (h : Rw k f w A l) (hb : Below w.heap.size w w') : Rw k f w' A l := by
  rcases h with h | ⟨b, o, e, hlt, hc⟩
  · exact .inl h
  · exact .inr ⟨b, o, e, Nat.lt_of_lt_of_le hlt hb.size, fun i hi j hj => (hb.cell (p := ⟨b, o + i * k + j, none⟩) hlt).trans (hc i hi j hj)⟩
/-- One of the rows, in every later world. -/
theorem Rw.at_ {β : Type} {k : Nat} {f : β → Array Value} {w : World} {A : Option Addr} {l : List β} (h : Rw k f w A l) (i : Nat) (hi : i < l.length) :
    ∃ b o x, A = some ⟨b, o, none⟩ ∧ l[i]? = some x ∧ ∀ u, Below w.heap.size w u → ∀ j, j < k → u.cell? ⟨b, o + i * k + j, none⟩ = (f x)[j]? := by
  rcases h with h | ⟨b, o, e, hlt, hc⟩
  · subst h; simp at hi
  · exact ⟨b, o, l[i], e, List.getElem?_eq_getElem hi, fun u hb j hj => (hb.cell (p := ⟨b, o + i * k + j, none⟩) hlt).trans (hc i hi j hj)⟩

abbrev ncs (n : Nt) : Array Value := #[.int .u32 (n.addr : Int), .int .i64 n.bits]
abbrev kcs (k : Tk) : Array Value := #[.string k.name, .string k.sec, .int .i64 k.till]
/-- A tenant, with where its rows lie. -/
structure Tv where
  t : Tn
  An : Option Addr
  cn : Nat
  Ak : Option Addr
  ck : Nat
abbrev tcs (x : Tv) : Array Value := #[.string x.t.name, .int .i64 x.t.names, .int .i64 x.t.visitors, .slice x.An x.t.nets.length x.cn, .slice x.Ak x.t.toks.length x.ck]
structure Cv where
  wait : Int
  grace : Int
  idle : Int
  lease : Int
  ts : List Tv
  A : Option Addr
  c : Nat
abbrev ccs (x : Cv) : Array Value := #[.int .i64 x.wait, .int .i64 x.grace, .int .i64 x.idle, .int .i64 x.lease, .slice x.A x.ts.length x.c]
def Cv.cg (x : Cv) : Cg := ⟨x.wait, x.grace, x.idle, x.lease, x.ts.map (·.t)⟩

/-- Where a slice of n rows may lie. -/
structure Fit (A : Option Addr) (n c : Nat) : Prop where
  cap : n ≤ c
  max : c ≤ 9223372036854775807
  nil_ : A = none → n = 0 ∧ c = 0

abbrev RN (w : World) (A : Option Addr) (l : List Nt) : Prop := Rw 2 ncs w A l
abbrev RK (w : World) (A : Option Addr) (l : List Tk) : Prop := Rw 3 kcs w A l
structure RT1 (w : World) (x : Tv) : Prop where
  n : RN w x.An x.t.nets
  k : RK w x.Ak x.t.toks
  fn : Fit x.An x.t.nets.length x.cn
  fk : Fit x.Ak x.t.toks.length x.ck
  lt : ∀ n ∈ x.t.nets, n.addr < 4294967296
  sz : x.t.name.size ≤ 140737488355328
  szk : ∀ k ∈ x.t.toks, k.name.size ≤ 140737488355328 ∧ k.sec.size ≤ 140737488355328
theorem RT1.on {w w' : World} {x : Tv} (h : RT1 w x) (hb : Below w.heap.size w w') : RT1 w' x := ⟨h.n.on hb, h.k.on hb, h.fn, h.fk, h.lt, h.sz, h.szk⟩
structure RT (w : World) (A : Option Addr) (l : List Tv) : Prop where
  r : Rw 5 tcs w A l
  each : ∀ x ∈ l, RT1 w x
theorem RT.on {w w' : World} {A : Option Addr} {l : List Tv} (h : RT w A l) (hb : Below w.heap.size w w') : RT w' A l := ⟨h.r.on hb, fun x hx => (h.each x hx).on hb⟩
/-- The configuration x lies in memory. -/
structure RC (w : World) (x : Cv) : Prop where
  r : RT w x.A x.ts
  f : Fit x.A x.ts.length x.c
theorem RC.on {w w' : World} {x : Cv} (h : RC w x) (hb : Below w.heap.size w w') : RC w' x := ⟨h.r.on hb, h.f⟩

theorem RN.at2 {w : World} {A : Option Addr} {l : List Nt} (h : RN w A l) (i : Nat) (hi : i < l.length) :
    ∃ b o x, A = some ⟨b, o, none⟩ ∧ l[i]? = some x ∧ ∀ u, Below w.heap.size w u → u.cell? ⟨b, o + i * 2, none⟩ = some (.int .u32 (x.addr : Int)) ∧ u.cell? ⟨b, o + i * 2 + 1, none⟩ = some (.int .i64 x.bits) := by
  obtain ⟨b, o, x, h1, h2, h3⟩ := Rw.at_ h i hi
  exact ⟨b, o, x, h1, h2, fun u hb => ⟨h3 u hb 0 (by omega), h3 u hb 1 (by omega)⟩⟩
theorem RK.at3 {w : World} {A : Option Addr} {l : List Tk} (h : RK w A l) (i : Nat) (hi : i < l.length) :
    ∃ b o x, A = some ⟨b, o, none⟩ ∧ l[i]? = some x ∧ ∀ u, Below w.heap.size w u → u.cell? ⟨b, o + i * 3, none⟩ = some (.string x.name) ∧ u.cell? ⟨b, o + i * 3 + 1, none⟩ = some (.string x.sec) ∧ u.cell? ⟨b, o + i * 3 + 2, none⟩ = some (.int .i64 x.till) := by
  obtain ⟨b, o, x, h1, h2, h3⟩ := Rw.at_ h i hi
  exact ⟨b, o, x, h1, h2, fun u hb => ⟨h3 u hb 0 (by omega), h3 u hb 1 (by omega), h3 u hb 2 (by omega)⟩⟩
theorem RT.at5 {w : World} {A : Option Addr} {l : List Tv} (h : RT w A l) (i : Nat) (hi : i < l.length) :
    ∃ b o x, A = some ⟨b, o, none⟩ ∧ l[i]? = some x ∧ RT1 w x ∧ ∀ u, Below w.heap.size w u → u.cell? ⟨b, o + i * 5, none⟩ = some (.string x.t.name) ∧ u.cell? ⟨b, o + i * 5 + 1, none⟩ = some (.int .i64 x.t.names) ∧ u.cell? ⟨b, o + i * 5 + 2, none⟩ = some (.int .i64 x.t.visitors) ∧
      u.cell? ⟨b, o + i * 5 + 3, none⟩ = some (.slice x.An x.t.nets.length x.cn) ∧ u.cell? ⟨b, o + i * 5 + 4, none⟩ = some (.slice x.Ak x.t.toks.length x.ck) := by
  obtain ⟨b, o, x, h1, h2, h3⟩ := Rw.at_ h.r i hi
  exact ⟨b, o, x, h1, h2, h.each x (List.mem_of_getElem? h2), fun u hb => ⟨h3 u hb 0 (by omega), h3 u hb 1 (by omega), h3 u hb 2 (by omega), h3 u hb 3 (by omega), h3 u hb 4 (by omega)⟩⟩
end Go.Proofs.Ytinjldjpncijjaa

/- Rows of structs that the call owns; append of rows of structs. -/
namespace Go.Proofs.Ytinjldjpncijjaa
set_option linter.unusedVariables false
set_option maxRecDepth 100000
set_option linter.unusedSimpArgs false
open Go.RowKit

def fl {β : Type} (f : β → Array Value) (l : List β) : List Value := l.flatMap fun x => (f x).toList
theorem fl_app {β : Type} (f : β → Array Value) (a b : List β) : fl f (a ++ b) = fl f a ++ fl f b := by simp [fl]
theorem fl_length {β : Type} {k : Nat} {f : β → Array Value} (hf : ∀ x, (f x).size = k) : ∀ l : List β, (fl f l).length = l.length * k
  | [] => by simp [fl]
  | x :: l => by
    have := fl_length hf l
    simp only [fl, List.flatMap_cons, List.length_append, Array.length_toList, hf, List.length_cons] at this ⊢
    rw [this, Nat.add_mul, Nat.one_mul, Nat.add_comm]
theorem fl_at {β : Type} {k : Nat} {f : β → Array Value} (hf : ∀ x, (f x).size = k) : ∀ (l : List β) (i : Nat) (h : i < l.length) (j : Nat), j < k → (fl f l)[i * k + j]? = (f l[i])[j]?
  | [], i, h, _, _ => by simp at h
  | x :: l, 0, h, j, hj => by
    simp only [fl, List.flatMap_cons, Nat.zero_mul, Nat.zero_add, List.getElem_cons_zero]
    rw [List.getElem?_append_left (by rw [Array.length_toList, hf]; exact hj), Array.getElem?_toList]
  | x :: l, i + 1, h, j, hj => by
    have := fl_at hf l i (by simpa using h) j hj
    simp only [fl, List.flatMap_cons, List.getElem_cons_succ] at this ⊢
    rw [List.getElem?_append_right (by rw [Array.length_toList, hf, Nat.add_mul]; omega), Array.length_toList, hf, Nat.add_mul, Nat.one_mul, ← this]
    congr 1
    omega
theorem fl_mem {β : Type} {f : β → Array Value} {l : List β} {u : Value} (h : u ∈ fl f l) : ∃ x ∈ l, u ∈ f x := by
  obtain ⟨x, hx, hu⟩ := List.mem_flatMap.1 h
  exact ⟨x, hx, by simpa using hu⟩
theorem fl_all {β : Type} {k : Nat} {f : β → Array Value} (hf : ∀ x, (f x).size = k) (hk : 0 < k) (l : List β) (q : Nat) (u : Value) (h : (fl f l)[q]? = some u) : ∃ i j, ∃ hi : i < l.length, j < k ∧ q = i * k + j ∧ (f l[i])[j]? = some u := by
  have hq : q < l.length * k := by
    have := (List.getElem?_eq_some_iff.1 h).1
    rwa [fl_length hf] at this
  have h1 : q / k < l.length := (Nat.div_lt_iff_lt_mul hk).2 hq
  have h2 := Nat.mod_lt q hk
  have h3 : q = q / k * k + q % k := by rw [Nat.mul_comm]; exact (Nat.div_add_mod q k).symm
  refine ⟨q / k, q % k, h1, h2, h3, ?_⟩
  rw [← fl_at hf l (q / k) h1 (q % k) h2, ← h3, h]

/-- How rows of a type lie. -/
structure Ro {β : Type} (P : Program) (t e : TypeId) (k by_ : Nat) (f : β → Array Value) : Prop where
  ht : P.underlying t = some (.slice e)
  hi : ∃ i z, P.info? e = some i ∧ i.zero = some z ∧ i.size = k ∧ i.bytes = by_ ∧ z.cells.size = k
  k0 : 0 < k
  fs : ∀ x, (f x).size = k
  one : ∀ x, ∀ u ∈ f x, u.oneCell' = true
  few : by_ ≤ 128

/-- The slice at A, of capacity c, owns the rows l: it lies at block B or behind it. -/
def Ow {β : Type} (e : TypeId) (k : Nat) (f : β → Array Value) (w : World) (B : Nat) (A : Option Addr) (c : Nat) (l : List β) : Prop := w.ownsRow B e k (.slice A l.length c) l.length (fl f l)

section
variable {β : Type} {P : Program} {t e : TypeId} {k by_ : Nat} {f : β → Array Value} {w w' : World} {B : Nat} {A : Option Addr} {c : Nat} {l : List β}

theorem Ow.nil (w : World) (B : Nat) : Ow e k f w B none 0 [] := World.ownsRow_nil w B e k
theorem Ow.rw_ (hf : ∀ x, (f x).size = k) (h : Ow e k f w B A c l) : Rw k f w A l := by
  by_cases h0 : l = []
  · exact .inl h0
  · have hp : 0 < l.length := List.length_pos_iff.2 h0
    obtain ⟨g, cap, hv, hb, hl⟩ := World.ownsRow.form h hp
    injection hv with h1 _ _
    subst h1
    refine .inr ⟨g, 0, rfl, hl, fun i hi j hj => ?_⟩
    have hlt : i * k + j < l.length * k := by
      have h2 : (i + 1) * k ≤ l.length * k := Nat.mul_le_mul_right k (by omega)
      rw [Nat.add_mul, Nat.one_mul] at h2
      omega
    have e1 := World.ownsRow.cellAt h (i * k + j) hlt
    rw [Nat.zero_add, e1, fl_at hf l i hi j hj]
theorem Ow.fit (h : Ow e k f w B A c l) : Fit A l.length c := by
  rcases h.2 with ⟨hv, h0⟩ | ⟨g, cap, cur, hv, _, _, hn, hm, _⟩
  · injection hv with h1 _ h3
    exact ⟨by omega, by omega, fun _ => ⟨h0, h3⟩⟩
  · injection hv with h1 _ h3
    unfold maxLen at hm
    exact ⟨by omega, by omega, fun e => by rw [e] at h1; cases h1⟩
/-- What the call owns stays owned where its block stays. -/
theorem Ow.keep (h : Ow e k f w B A c l) (hk : ∀ g cs, B ≤ g → Bk w g e cs → Bk w' g e cs) : Ow e k f w' B A c l := by
  refine ⟨h.1, ?_⟩
  rcases h.2 with hn | ⟨g, cap, cur, hv, hg, hh, r⟩
  · exact .inl hn
  · exact .inr ⟨g, cap, cur, hv, hg, hk g cur hg hh, r⟩
theorem Ow.set (h : Ow e k f w B A c l) {p : Addr} (hp : p.block < B) (v : Value) : Ow e k f (w.setCell p v) B A c l := h.keep fun g cs hg hh => hh.far (by omega) v
theorem Ow.on (h : Ow e k f w B A c l) (hb : Below w.heap.size w w') : Ow e k f w' B A c l := h.keep fun g cs _ hh => hh.below hb hh.lt
/-- Its block. -/
theorem Ow.block (h : Ow e k f w B A c l) (n : Nat) (g : Nat) (hn : (Value.slice A n c).ownBlock = some g) : B ≤ g ∧ g < w.heap.size ∧ ∃ cs, Bk w g e cs := by
  rcases h.2 with ⟨hv, _⟩ | ⟨g', cap, cur, hv, hb, hh, _⟩
  · injection hv with h1
    subst h1
    cases hn
  · injection hv with h1
    subst h1
    simp [Value.ownBlock] at hn
    subst hn
    exact ⟨hb, lt_of_block hh, cur, hh⟩
theorem Rw.bk {g : Nat} {t' : TypeId} {x : β} (h : Bk w g t' (f x)) : Rw k f w (some ⟨g, 0, none⟩) [x] :=
  .inr ⟨g, 0, rfl, h.lt, fun i hi j _ => by
    have hi0 : i = 0 := by simp at hi; omega
    subst hi0
    rw [h.cell]; simp⟩

/-- append of rows, as one operation. -/
theorem op_rows (R : Ro P t e k by_ f) {o : Oper} {a : Act} {K : Act → World → Prop} {Q : Exit → Act → World → Prop} (s x : Operand)
    (ho : o.op = .call { callee := .builtin .append, args := #[s, x], argTypes := #[t, t] }) (n : Nat) (hs : a.eval s = .slice A n c) (hn : l.length = n) (hown : Ow e k f w B A c l)
    (M : List β) (A' : Option Addr) (m c' : Nat) (hx : a.eval x = .slice A' m c') (hm : M.length = m) (hnil : A' = none → m = 0 ∧ c' = 0) (hR : Rw k f w A' M)
    (hlen : n + m ≤ 1099511627776) (hbase : B ≤ w.heap.size) (s' : Nat) (hsum : n + m = s')
    (h : ∀ A2 c2 w', Ow e k f w' B A2 c2 (l ++ M) → w.grownBy w' (Value.slice A n c).ownBlock → Below B w w' → K (a.put o.dst (.slice A2 s' c2)) w') : o.wp P a w K Q := by
  obtain ⟨i, z, hi1, hz, hsz, hby, hzc⟩ := R.hi
  subst hn; subst hm; subst hsum
  cases A' with
  | none =>
    obtain ⟨h0, rfl⟩ := hnil rfl
    have hk : M = [] := List.eq_nil_of_length_eq_zero h0
    subst hk
    have hrun := run_append_owned_none (P := P) (w := w) B t o.type e i k R.ht hi1 _ l.length (fl f l) hown
    unfold Oper.wp
    simp [execOp, ho, resolve, invoke, builtin, hs, hx, hrun, Result.andThen]
    have := h A c w (by simpa using hown) (World.grownBy.refl w _) (Below.refl B w)
    exact (by simpa using this : K (a.put o.dst (Value.slice A l.length c)) w)
  | some ad =>
    have hb8 : (l.length + M.length) * by_ ≤ 140737488355328 := Nat.le_trans (Nat.mul_le_mul hlen R.few) (by decide)
    refine wp_append_own w s x t ho B e i z k by_ R.ht hi1 hz hsz hby hzc R.k0 _ l.length (fl f l) hs hown ad M.length c' (fl f M) hx (fl_length R.fs M) ?_ ?_ (by unfold maxLen; omega) hb8 hbase ?_
    · intro q u hu
      obtain ⟨i', j, hi', hj, rfl, hv⟩ := fl_all R.fs R.k0 M q u hu
      rcases hR with h0 | ⟨b, o', e1, _, hc⟩
      · subst h0; simp at hi'
      · injection e1 with e1
        subst e1
        rw [add_plain, ← Nat.add_assoc, hc i' hi' j hj, hv]
    · intro u hu
      obtain ⟨y, _, hy⟩ := fl_mem hu
      exact R.one y u hy
    · intro v' w' hown' hg _
      have hbel : Below B w w' := (Below.refl B w).grown hg hbase (fun k hk => (World.ownsRow.lt hown k hk).1)
      have hlen' : (l ++ M).length = l.length + M.length := List.length_append
      rw [← fl_app] at hown'
      rw [← hlen'] at hown'
      by_cases h0 : l ++ M = []
      · rw [h0] at hown'
        rcases hown'.2 with ⟨rfl, _⟩ | ⟨g, cap, cur, rfl, _, r⟩
        · have := h none 0 w' (by rw [h0]; exact Ow.nil w' B) hg hbel
          rwa [← hlen', h0] at this
        · have := h (some ⟨g, 0, none⟩) cap w' (by rw [h0]; exact hown') hg hbel
          rwa [← hlen', h0] at this
      · have hp : 0 < (l ++ M).length := List.length_pos_iff.2 h0
        obtain ⟨g, cap, rfl, _, _⟩ := World.ownsRow.form hown' hp
        have := h (some ⟨g, 0, none⟩) cap w' hown' hg hbel
        rwa [← hlen'] at this
/-- The same, in a region that draws nothing. -/
theorem wp_rows (R : Ro P t e k by_ f) {ops : Array Oper} {rest : List Oper} {o : Oper} {a : Act} {Q : Exit → Act → World → Prop} (hw : Region.wanted o (yielded ops a.tmps) = true) (s x : Operand)
    (ho : o.op = .call { callee := .builtin .append, args := #[s, x], argTypes := #[t, t] }) (n : Nat) (hs : a.eval s = .slice A n c) (hn : l.length = n) (hown : Ow e k f w B A c l)
    (M : List β) (A' : Option Addr) (m c' : Nat) (hx : a.eval x = .slice A' m c') (hm : M.length = m) (hnil : A' = none → m = 0 ∧ c' = 0) (hR : Rw k f w A' M)
    (hlen : n + m ≤ 1099511627776) (hbase : B ≤ w.heap.size) (s' : Nat) (hsum : n + m = s')
    (h : ∀ A2 c2 w', Ow e k f w' B A2 c2 (l ++ M) → w.grownBy w' (Value.slice A n c).ownBlock → Below B w w' → wpList P ops Q rest (a.put o.dst (.slice A2 s' c2)) w') : wpList P ops Q (o :: rest) a w :=
  wpList_wanted hw fun K hK => op_rows R s x ho n hs hn hown M A' m c' hx hm hnil hR hlen hbase s' hsum (fun A2 c2 w' k1 k2 k3 => hK _ _ (h A2 c2 w' k1 k2 k3))
theorem wp_rows0 (R : Ro P t e k by_ f) {ops : Array Oper} {rest : List Oper} {o : Oper} {a : Act} {Q : Exit → Act → World → Prop} (hgd : o.guard = none) (s x : Operand)
    (ho : o.op = .call { callee := .builtin .append, args := #[s, x], argTypes := #[t, t] }) (n : Nat) (hs : a.eval s = .slice A n c) (hn : l.length = n) (hown : Ow e k f w B A c l)
    (M : List β) (A' : Option Addr) (m c' : Nat) (hx : a.eval x = .slice A' m c') (hm : M.length = m) (hnil : A' = none → m = 0 ∧ c' = 0) (hR : Rw k f w A' M)
    (hlen : n + m ≤ 1099511627776) (hbase : B ≤ w.heap.size) (s' : Nat) (hsum : n + m = s')
    (h : ∀ A2 c2 w', Ow e k f w' B A2 c2 (l ++ M) → w.grownBy w' (Value.slice A n c).ownBlock → Below B w w' → wpList P ops Q rest (a.put o.dst (.slice A2 s' c2)) w') : wpList P ops Q (o :: rest) a w :=
  wpList_plain hgd fun K hK => op_rows R s x ho n hs hn hown M A' m c' hx hm hnil hR hlen hbase s' hsum (fun A2 c2 w' k1 k2 k3 => hK _ _ (h A2 c2 w' k1 k2 k3))
/-- An empty row of its own. -/
theorem Ow.empty (w : World) (B : Nat) (hB : B ≤ w.heap.size) : Ow e k f (w.alloc (.cells #[] e)) B (some ⟨w.heap.size, 0, none⟩) 0 ([] : List β) := by
  have := World.ownsRow_lit (base := B) (e := e) (size := k) w #[] 0 hB (by unfold maxLen; omega) (by simp)
  exact this
end

end Go.Proofs.Ytinjldjpncijjaa

/- append of one row, with the place of the new slice. Nothing of the program is named here. -/
namespace Go.Proofs.Ytinjldjpncijjaa
set_option linter.unusedVariables false
set_option maxRecDepth 100000
set_option linter.unusedSimpArgs false
open Go.RowKit

section
variable {β : Type} {P : Program} {t e : TypeId} {k by_ : Nat} {f : β → Array Value} {w w' : World} {B : Nat} {A : Option Addr} {c : Nat} {l : List β}
/-- append of one row: where the new slice lies. -/
theorem wp_rows_at (R : Ro P t e k by_ f) {ops : Array Oper} {rest : List Oper} {o : Oper} {a : Act} {Q : Exit → Act → World → Prop} (hgd : o.guard = none) (s x : Operand)
    (ho : o.op = .call { callee := .builtin .append, args := #[s, x], argTypes := #[t, t] }) (n : Nat) (hs : a.eval s = .slice A n c) (hn : l.length = n) (hown : Ow e k f w B A c l)
    (y : β) (b c' : Nat) (hx : a.eval x = .slice (some ⟨b, 0, none⟩) 1 c') (hR : Rw k f w (some ⟨b, 0, none⟩) [y])
    (hlen : n + 1 ≤ 1099511627776) (hbase : B ≤ w.heap.size) (s' : Nat) (hsum : n + 1 = s')
    (h : ∀ g2 c2 w', Ow e k f w' B (some ⟨g2, 0, none⟩) c2 (l ++ [y]) → w.grownBy w' (Value.slice A n c).ownBlock → Below B w w' → ((Value.slice A n c).ownBlock = some g2 ∨ g2 = w.heap.size) → wpList P ops Q rest (a.put o.dst (.slice (some ⟨g2, 0, none⟩) s' c2)) w') : wpList P ops Q (o :: rest) a w := by
  obtain ⟨i, z, hi1, hz, hsz, hby, hzc⟩ := R.hi
  subst hn; subst hsum
  have hb8 : (l.length + 1) * by_ ≤ 140737488355328 := Nat.le_trans (Nat.mul_le_mul hlen R.few) (by decide)
  refine wpList_append_own_at w hgd s x t ho B e i z k by_ R.ht hi1 hz hsz hby hzc R.k0 _ l.length (fl f l) hs hown ⟨b, 0, none⟩ 1 c' (fl f [y]) hx (fl_length R.fs [y]) ?_ ?_ (by unfold maxLen; omega) hb8 hbase ?_
  · intro q u hu
    obtain ⟨i', j, hi', hj, rfl, hv⟩ := fl_all R.fs R.k0 [y] q u hu
    rcases hR with h0 | ⟨b2, o', e1, _, hc⟩
    · cases h0
    · injection e1 with e1
      rw [e1, add_plain, ← Nat.add_assoc, hc i' hi' j hj, hv]
  · intro u hu
    obtain ⟨y2, _, hy⟩ := fl_mem hu
    exact R.one y2 u hy
  · intro v' w' hown' hg _ hat
    have hbel : Below B w w' := (Below.refl B w).grown hg hbase (fun k hk => (World.ownsRow.lt hown k hk).1)
    have hlen' : (l ++ [y]).length = l.length + 1 := List.length_append
    rw [← fl_app] at hown'
    rw [← hlen'] at hown'
    obtain ⟨g, cap, rfl, _, _⟩ := World.ownsRow.form hown' (by rw [hlen']; omega)
    have := h g cap w' hown' hg hbel (by
      rcases hat with e1 | e1
      · left; rw [← e1]; rfl
      · right; simpa [Value.ownBlock] using e1)
    rwa [← hlen'] at this
theorem gb_set (w : World) (p : Addr) (v : Value) : w.grownBy (w.setCell p v) (some p.block) := ⟨rfl, rfl, rfl, by simp [World.setCell], fun k hk hn => Below.heap_setCell _ _ _ _ (fun e => hn (by rw [e]))⟩
theorem gb_after {a b : World} {row : Option Nat} (h : a.grownBy b row) {p : Addr} (hp : a.heap.size ≤ p.block) (v : Value) : a.grownBy (b.setCell p v) row :=
  ⟨h.os, h.tape, h.output, Nat.le_trans h.size (by simp [World.setCell]), fun k hk hn => (Below.heap_setCell _ _ _ _ (fun e => by omega)).trans (h.block k hk hn)⟩
theorem gb_from {a b c : World} {row : Option Nat} (h : Below a.heap.size a b) (k : b.grownBy c row) : a.grownBy c row :=
  ⟨k.os.trans h.os, k.tape.trans h.tape, k.output.trans h.output, Nat.le_trans h.size k.size, fun i hi hne => (k.block i (Nat.lt_of_lt_of_le hi h.size) hne).trans (h.block i hi)⟩
theorem Ow.apart {g : Nat} (h : Ow e k f w B (some ⟨g, 0, none⟩) c l) {p : Addr} (hp : g ≠ p.block) (v : Value) : Ow e k f (w.setCell p v) B (some ⟨g, 0, none⟩) c l :=
  World.ownsRow.kept h (gb_set w p v) (.inr (by simp [Value.ownBlock]; exact hp))
end

end Go.Proofs.Ytinjldjpncijjaa
