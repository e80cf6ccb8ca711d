/- CfgM, CgR, NetAt: texts of this seat, one behind the other. -/
import Derived.Test.YtijboiepockmjaaDoorG3
import Derived.Test.YtijboiepockmjaaDoorG1
import Derived.Test.YtijboiepockmjaaDoorRows
/- Configurations, their texts, and what is read of a text: plain mathematics. -/
namespace Go.Proofs.YtijboiepockmjaaDoor
set_option linter.unusedVariables false
set_option maxRecDepth 100000
set_option linter.unusedSimpArgs false

/-! ### What may be -/

structure Nt where
  addr : Nat
  bits : Int
structure Tk where
  name : ByteArray
  sec : ByteArray
  till : Int
structure Tn where
  name : ByteArray
  names : Int
  visitors : Int
  nets : List Nt
  toks : List Tk
structure Cg where
  wait : Int
  grace : Int
  idle : Int
  lease : Int
  tens : List Tn

/-- Is one text less than another one? -/
def ltS (a b : ByteArray) : Bool := Op.bytesLess a.toList b.toList
/-- Are these names, each greater than the one ahead of it? -/
def rise : ByteArray → List ByteArray → Bool
  | _, [] => true
  | last, x :: r => nameB x && ltS last x && rise x r
def netB (n : Nt) : Bool := rightB n.addr n.bits
def tokB (k : Tk) : Bool := decide (1 ≤ k.sec.size) && decide (k.sec.size ≤ 32) && decide (0 ≤ k.till) && decide (k.till ≤ 1099511627776)
def quoB (n : Int) : Bool := decide (0 ≤ n) && decide (n ≤ 8)
def tenB (t : Tn) : Bool := quoB t.names && quoB t.visitors && decide (t.nets.length ≤ 4) && t.nets.all netB && decide (t.toks.length ≤ 4) && rise ByteArray.empty (t.toks.map (·.name)) && t.toks.all tokB
def timB (n : Int) : Bool := decide (1 ≤ n) && decide (n ≤ 1073741824)
def cfgB (c : Cg) : Bool := timB c.wait && timB c.grace && timB c.idle && timB c.lease && decide (c.tens.length ≤ 8) && rise ByteArray.empty (c.tens.map (·.name)) && c.tens.all tenB

theorem rise_app : ∀ (a b : List ByteArray) (l : ByteArray), rise l (a ++ b) = true → rise l a = true
  | [], _, _, _ => rfl
  | x :: a, b, l, h => by
    rw [List.cons_append, rise, Bool.and_eq_true] at h
    rw [rise, Bool.and_eq_true]
    exact ⟨h.1, rise_app a b x h.2⟩

/-! ### Lines -/

def wTimes : List UInt8 := [116, 105, 109, 101, 115]
def wTenant : List UInt8 := [116, 101, 110, 97, 110, 116]
def wNet : List UInt8 := [110, 101, 116]
def wToken : List UInt8 := [116, 111, 107, 101, 110]

def timesW (c : Cg) : List (List UInt8) := [wTimes, decB c.wait.toNat, decB c.grace.toNat, decB c.idle.toNat, decB c.lease.toNat]
def tenW (t : Tn) : List (List UInt8) := [wTenant, t.name.data.toList, decB t.names.toNat, decB t.visitors.toNat]
def netW (n : Nt) : List (List UInt8) := [wNet, slashL n.addr n.bits]
def tokW (k : Tk) : List (List UInt8) := [wToken, k.name.data.toList, hexB k.sec.data.toList, decB k.till.toNat]
def tenLs (t : Tn) : List (List (List UInt8)) := tenW t :: (t.nets.map netW ++ t.toks.map tokW)
def cfgLs (c : Cg) : List (List (List UInt8)) := timesW c :: c.tens.flatMap tenLs
def lineT (ws : List (List UInt8)) : List UInt8 := joinL 32 ws ++ [10]
def textT (ls : List (List (List UInt8))) : List UInt8 := ls.flatMap lineT
def printT (c : Cg) : List UInt8 := if cfgB c = true then textT (cfgLs c) else []

/-- The lines of a text, each with whether it has an end. -/
def linesL : List UInt8 → List (List UInt8 × Bool)
  | [] => []
  | x :: r => if x = 10 then ([], true) :: linesL r else
    match linesL r with
    | [] => [([x], false)]
    | (p, e) :: ps => (x :: p, e) :: ps

theorem linesL_cons (x : UInt8) (r : List UInt8) : ∃ p e ps, linesL (x :: r) = (p, e) :: ps := by
  unfold linesL
  by_cases h : x = 10
  · exact ⟨_, _, _, by rw [if_pos h]⟩
  · rw [if_neg h]
    split
    · exact ⟨_, _, _, rfl⟩
    · exact ⟨_, _, _, rfl⟩

theorem lines_cut : ∀ l : List UInt8, l ≠ [] → linesL l = ((cutL 10 l).1, (cutL 10 l).2.2) :: linesL (cutL 10 l).2.1
  | [], h => absurd rfl h
  | x :: r, _ => by
    rw [linesL, cutL]
    by_cases hx : x = 10
    · rw [if_pos hx, if_pos hx]
    · rw [if_neg hx, if_neg hx]
      cases r with
      | nil => rfl
      | cons y r =>
        have ih := lines_cut (y :: r) (by simp)
        rw [ih]

theorem lines_hit (p r : List UInt8) (h : (10 : UInt8) ∉ p) : linesL (p ++ 10 :: r) = (p, true) :: linesL r := by
  have := lines_cut (p ++ 10 :: r) (by simp)
  rw [this, cutL_hit 10 p r h]
theorem lines_miss (p : List UInt8) (h : (10 : UInt8) ∉ p) (h0 : p ≠ []) : linesL p = [(p, false)] := by
  have := lines_cut p h0
  rw [this, cutL_miss 10 p h]
  rfl
theorem lines_no : ∀ l : List UInt8, ∀ p e, (p, e) ∈ linesL l → (10 : UInt8) ∉ p
  | [], _, _, h => by cases h
  | x :: r, p, e, h => by
    have ih := lines_no r
    unfold linesL at h
    by_cases hx : x = 10
    · rw [if_pos hx] at h
      rcases List.mem_cons.1 h with h | h
      · injection h with h1 h2; rw [h1]; simp
      · exact ih p e h
    · rw [if_neg hx] at h
      cases hl : linesL r with
      | nil =>
        rw [hl] at h
        simp only [List.mem_singleton] at h
        injection h with h1 h2
        rw [h1]
        simp only [List.mem_singleton]
        exact fun k => hx k.symm
      | cons q qs =>
        obtain ⟨q1, q2⟩ := q
        rw [hl] at h ih
        simp only [List.mem_cons] at h
        rcases h with h | h
        · injection h with h1 h2
          rw [h1, List.mem_cons, not_or]
          exact ⟨fun k => hx k.symm, ih q1 q2 (by simp)⟩
        · exact ih p e (List.mem_cons_of_mem _ h)
/-- A text of whole lines is its lines. -/
theorem lines_text : ∀ l : List UInt8, (∀ x ∈ linesL l, x.2 = true) → l = (linesL l).flatMap fun x => x.1 ++ [10]
  | [], _ => rfl
  | x :: r, h => by
    have ih := lines_text r
    unfold linesL at h ⊢
    by_cases hx : x = 10
    · rw [if_pos hx] at h ⊢
      have := ih (fun y hy => h y (List.mem_cons_of_mem _ hy))
      rw [List.flatMap_cons, ← this, hx]; rfl
    · rw [if_neg hx] at h ⊢
      cases hl : linesL r with
      | nil =>
        rw [hl] at h
        have := h ([x], false) (by simp)
        cases this
      | cons q qs =>
        obtain ⟨q1, q2⟩ := q
        rw [hl] at h ih
        have := ih (fun y hy => by
          rcases List.mem_cons.1 hy with h1 | h1
          · rw [h1]; exact h (x :: q1, q2) (by simp)
          · exact h y (List.mem_cons_of_mem _ h1))
        simp only [List.flatMap_cons] at this ⊢
        rw [List.cons_append, List.cons_append, ← this]

/-! ### What is read -/

def decO (w : List UInt8) : Option Nat := (parseS (bs w)).map (·.1)
theorem decO_back (n : Nat) (h : n ≤ 1099511627776) : decO (decB n) = some n := by
  obtain ⟨k, hk⟩ := parse_back n h
  simp [decO, hk]
theorem decO_is (w : List UInt8) (n : Nat) (h : decO w = some n) : n ≤ 1099511627776 ∧ w = decB n := by
  unfold decO at h
  cases hp : parseS (bs w) with
  | none => rw [hp] at h; cases h
  | some x =>
    obtain ⟨m, k⟩ := x
    rw [hp] at h
    obtain rfl : m = n := by injection h
    obtain ⟨h1, h2⟩ := parse_is _ m k hp
    exact ⟨h1, bs_inj h2⟩

/-- With another last tenant. -/
def lastC (c : Cg) : Option Tn := c.tens.getLast?
def setC (c : Cg) (t : Tn) : Cg := { c with tens := c.tens.dropLast ++ [t] }
def zeroC : Cg := ⟨0, 0, 0, 0, []⟩

def readTimes (c : Cg) : List (List UInt8) → Option Cg
  | [a, b, d, e] => match decO a, decO b, decO d, decO e with
    | some a, some b, some d, some e => some ⟨a, b, d, e, c.tens⟩
    | _, _, _, _ => none
  | _ => none
def readTenant (c : Cg) : List (List UInt8) → Option Cg
  | [n, a, b] => match decO a, decO b with
    | some a, some b => some { c with tens := c.tens ++ [⟨bs n, a, b, [], []⟩] }
    | _, _ => none
  | _ => none
def readNet (c : Cg) : List (List UInt8) → Option Cg
  | [n] => match lastC c with
    | none => none
    | some t => if t.toks = [] then match netO (bs n) with
      | some x => some (setC c { t with nets := t.nets ++ [⟨x.1, x.2⟩] })
      | none => none
      else none
  | _ => none
def readToken (c : Cg) : List (List UInt8) → Option Cg
  | [n, s, u] => match lastC c with
    | none => none
    | some t => match unhexB s, decO u with
      | some b, some v => some (setC c { t with toks := t.toks ++ [⟨bs n, bs b, v⟩] })
      | _, _ => none
  | _ => none
def readW (c : Cg) : List (List UInt8) → Option Cg
  | [] => none
  | k :: ws => if k = wTimes then readTimes c ws else if k = wTenant then readTenant c ws else if k = wNet then readNet c ws else if k = wToken then readToken c ws else none
def okC (o : Option Cg) : Option Cg := match o with
  | some c => if cfgB c = true then some c else none
  | none => none
/-- One line, the first one or another one. -/
def lineC (c : Cg) (first : Bool) (ws : List (List UInt8)) : Option Cg := if decide (ws.head? = some wTimes) = first then okC (readW c ws) else none
def runL : Cg → Nat → List (List UInt8 × Bool) → Except Nat Cg
  | c, at', [] => if at' = 0 then .error 0 else .ok c
  | c, at', (l, e) :: r => if e = true then match lineC c (at' == 0) (piecesL 32 l) with
    | some c' => runL c' (at' + 1) r
    | none => .error at'
    else .error at'
def parseC (s : ByteArray) : Except Nat Cg := runL zeroC 0 (linesL s.data.toList)

end Go.Proofs.YtijboiepockmjaaDoor

/- Configurations in memory: rows of structs that slices read as. -/
namespace Go.Proofs.YtijboiepockmjaaDoor
set_option linter.unusedVariables false
set_option maxRecDepth 100000
set_option linter.unusedSimpArgs false
open Go.RowKit

/-- The slice at A reads as the rows l, of k cells each. -/
def Rw {β : Type} (k : Nat) (f : β → Array Value) (w : World) (A : Option Addr) (l : List β) : Prop :=
  l = [] ∨ ∃ b o, A = some ⟨b, o, none⟩ ∧ b < w.heap.size ∧ ∀ i, (h : i < l.length) → ∀ j, j < k → w.cell? ⟨b, o + i * k + j, none⟩ = (f l[i])[j]?
theorem Rw.nil {β : Type} {k : Nat} {f : β → Array Value} {w : World} {A : Option Addr} : Rw k f w A [] := .inl rfl
theorem Rw.on {β : Type} {k : Nat} {f : β → Array Value} {w w' : World} {A : Option Addr} {l : List β} (h : Rw k f w A l) (hb : Below w.heap.size w w') : Rw k f w' A l := by
  rcases h with h | ⟨b, o, e, hlt, hc⟩
  · exact .inl h
  · exact .inr ⟨b, o, e, Nat.lt_of_lt_of_le hlt hb.size, fun i hi j hj => (hb.cell (p := ⟨b, o + i * k + j, none⟩) hlt).trans (hc i hi j hj)⟩
/-- One of the rows, in every later world. -/
theorem Rw.at_ {β : Type} {k : Nat} {f : β → Array Value} {w : World} {A : Option Addr} {l : List β} (h : Rw k f w A l) (i : Nat) (hi : i < l.length) :
    ∃ b o x, A = some ⟨b, o, none⟩ ∧ l[i]? = some x ∧ ∀ u, Below w.heap.size w u → ∀ j, j < k → u.cell? ⟨b, o + i * k + j, none⟩ = (f x)[j]? := by
  rcases h with h | ⟨b, o, e, hlt, hc⟩
  · subst h; simp at hi
  · exact ⟨b, o, l[i], e, List.getElem?_eq_getElem hi, fun u hb j hj => (hb.cell (p := ⟨b, o + i * k + j, none⟩) hlt).trans (hc i hi j hj)⟩

abbrev ncs (n : Nt) : Array Value := #[.int .u32 (n.addr : Int), .int .i64 n.bits]
abbrev kcs (k : Tk) : Array Value := #[.string k.name, .string k.sec, .int .i64 k.till]
/-- A tenant, with where its rows lie. -/
structure Tv where
  t : Tn
  An : Option Addr
  cn : Nat
  Ak : Option Addr
  ck : Nat
abbrev tcs (x : Tv) : Array Value := #[.string x.t.name, .int .i64 x.t.names, .int .i64 x.t.visitors, .slice x.An x.t.nets.length x.cn, .slice x.Ak x.t.toks.length x.ck]
structure Cv where
  wait : Int
  grace : Int
  idle : Int
  lease : Int
  ts : List Tv
  A : Option Addr
  c : Nat
abbrev ccs (x : Cv) : Array Value := #[.int .i64 x.wait, .int .i64 x.grace, .int .i64 x.idle, .int .i64 x.lease, .slice x.A x.ts.length x.c]
def Cv.cg (x : Cv) : Cg := ⟨x.wait, x.grace, x.idle, x.lease, x.ts.map (·.t)⟩

/-- Where a slice of n rows may lie. -/
structure Fit (A : Option Addr) (n c : Nat) : Prop where
  cap : n ≤ c
  max : c ≤ 9223372036854775807
  nil_ : A = none → n = 0 ∧ c = 0

abbrev RN (w : World) (A : Option Addr) (l : List Nt) : Prop := Rw 2 ncs w A l
abbrev RK (w : World) (A : Option Addr) (l : List Tk) : Prop := Rw 3 kcs w A l
structure RT1 (w : World) (x : Tv) : Prop where
  n : RN w x.An x.t.nets
  k : RK w x.Ak x.t.toks
  fn : Fit x.An x.t.nets.length x.cn
  fk : Fit x.Ak x.t.toks.length x.ck
  lt : ∀ n ∈ x.t.nets, n.addr < 4294967296
  sz : x.t.name.size ≤ 140737488355328
  szk : ∀ k ∈ x.t.toks, k.name.size ≤ 140737488355328 ∧ k.sec.size ≤ 140737488355328
theorem RT1.on {w w' : World} {x : Tv} (h : RT1 w x) (hb : Below w.heap.size w w') : RT1 w' x := ⟨h.n.on hb, h.k.on hb, h.fn, h.fk, h.lt, h.sz, h.szk⟩
structure RT (w : World) (A : Option Addr) (l : List Tv) : Prop where
  r : Rw 5 tcs w A l
  each : ∀ x ∈ l, RT1 w x
theorem RT.on {w w' : World} {A : Option Addr} {l : List Tv} (h : RT w A l) (hb : Below w.heap.size w w') : RT w' A l := ⟨h.r.on hb, fun x hx => (h.each x hx).on hb⟩
/-- The configuration x lies in memory. -/
structure RC (w : World) (x : Cv) : Prop where
  r : RT w x.A x.ts
  f : Fit x.A x.ts.length x.c
theorem RC.on {w w' : World} {x : Cv} (h : RC w x) (hb : Below w.heap.size w w') : RC w' x := ⟨h.r.on hb, h.f⟩

theorem RN.at2 {w : World} {A : Option Addr} {l : List Nt} (h : RN w A l) (i : Nat) (hi : i < l.length) :
    ∃ b o x, A = some ⟨b, o, none⟩ ∧ l[i]? = some x ∧ ∀ u, Below w.heap.size w u → u.cell? ⟨b, o + i * 2, none⟩ = some (.int .u32 (x.addr : Int)) ∧ u.cell? ⟨b, o + i * 2 + 1, none⟩ = some (.int .i64 x.bits) := by
  obtain ⟨b, o, x, h1, h2, h3⟩ := Rw.at_ h i hi
  exact ⟨b, o, x, h1, h2, fun u hb => ⟨h3 u hb 0 (by omega), h3 u hb 1 (by omega)⟩⟩
theorem RK.at3 {w : World} {A : Option Addr} {l : List Tk} (h : RK w A l) (i : Nat) (hi : i < l.length) :
    ∃ b o x, A = some ⟨b, o, none⟩ ∧ l[i]? = some x ∧ ∀ u, Below w.heap.size w u → u.cell? ⟨b, o + i * 3, none⟩ = some (.string x.name) ∧ u.cell? ⟨b, o + i * 3 + 1, none⟩ = some (.string x.sec) ∧ u.cell? ⟨b, o + i * 3 + 2, none⟩ = some (.int .i64 x.till) := by
  obtain ⟨b, o, x, h1, h2, h3⟩ := Rw.at_ h i hi
  exact ⟨b, o, x, h1, h2, fun u hb => ⟨h3 u hb 0 (by omega), h3 u hb 1 (by omega), h3 u hb 2 (by omega)⟩⟩
theorem RT.at5 {w : World} {A : Option Addr} {l : List Tv} (h : RT w A l) (i : Nat) (hi : i < l.length) :
    ∃ b o x, A = some ⟨b, o, none⟩ ∧ l[i]? = some x ∧ RT1 w x ∧ ∀ u, Below w.heap.size w u → u.cell? ⟨b, o + i * 5, none⟩ = some (.string x.t.name) ∧ u.cell? ⟨b, o + i * 5 + 1, none⟩ = some (.int .i64 x.t.names) ∧ u.cell? ⟨b, o + i * 5 + 2, none⟩ = some (.int .i64 x.t.visitors) ∧
      u.cell? ⟨b, o + i * 5 + 3, none⟩ = some (.slice x.An x.t.nets.length x.cn) ∧ u.cell? ⟨b, o + i * 5 + 4, none⟩ = some (.slice x.Ak x.t.toks.length x.ck) := by
  obtain ⟨b, o, x, h1, h2, h3⟩ := Rw.at_ h.r i hi
  exact ⟨b, o, x, h1, h2, h.each x (List.mem_of_getElem? h2), fun u hb => ⟨h3 u hb 0 (by omega), h3 u hb 1 (by omega), h3 u hb 2 (by omega), h3 u hb 3 (by omega), h3 u hb 4 (by omega)⟩⟩
end Go.Proofs.YtijboiepockmjaaDoor

/- syntax.In: its contract. (Written by gen_syn.py.) -/
namespace Go.Proofs.YtijboiepockmjaaDoor
set_option linter.unusedVariables false
set_option maxRecDepth 100000
set_option linter.unusedSimpArgs false
open Go.RowKit

/-- A net in a block of its own. -/
structure NetAt (B : Nat) (w : World) (g a : Nat) (bits : Int) (u : World) : Prop where
  b : Below B w u
  c0 : u.cell? ⟨g, 0, none⟩ = some (.int .u32 (a : Int))
  c1 : u.cell? ⟨g, 1, none⟩ = some (.int .i64 bits)
  lt : g < u.heap.size
theorem NetAt.on {B : Nat} {w u u' : World} {g a : Nat} {bits : Int} (h : NetAt B w g a bits u) (hB : B ≤ u.heap.size) (hb : Below u.heap.size u u') : NetAt B w g a bits u' :=
  ⟨h.b.trans (hb.mono hB), (hb.cell (p := ⟨g, 0, none⟩) h.lt).trans h.c0, (hb.cell (p := ⟨g, 1, none⟩) h.lt).trans h.c1, Nat.lt_of_lt_of_le h.lt hb.size⟩
theorem NetAt.draw {B : Nat} {w u : World} {g a : Nat} {bits : Int} (h : NetAt B w g a bits u) : NetAt B w g a bits u.drew := ⟨h.b.drew, h.c0, h.c1, h.lt⟩
theorem NetAt.new (w : World) (a : Nat) (bits : Int) (t : TypeId) : NetAt w.heap.size w w.heap.size a bits (w.alloc (.cells #[.int .u32 (a : Int), .int .i64 bits] t)) := by
  have hk : Bk (w.alloc (.cells #[.int .u32 (a : Int), .int .i64 bits] t)) w.heap.size t #[.int .u32 (a : Int), .int .i64 bits] := Bk.new _ _ _
  exact ⟨(Below.refl _ _).alloc (Nat.le_refl _) _, by rw [hk.cell]; rfl, by rw [hk.cell]; rfl, hk.lt⟩
end Go.Proofs.YtijboiepockmjaaDoor
