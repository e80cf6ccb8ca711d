/- CfgM, CgR, Open, AppOp, CgO: texts of this seat, one behind the other. -/
import Derived.Test.YtinbegnojfpeiaaDoorG6
import Derived.Test.YtinbegnojfpeiaaDoorG2
import Derived.Test.YtinbegnojfpeiaaDoorG1
import Derived.Test.YtinbegnojfpeiaaDoorRows
import Derived.ProofKit
import Derived.OpenShut
import Derived.ShutString
import Derived.ChangeOld
import Derived.Below
import Derived.SliceStrings
import Derived.Test.YtinbegnojfpeiaaDoorG5
/- Configurations, their texts, and what is read of a text: plain mathematics. -/
namespace Go.Proofs.YtinbegnojfpeiaaDoor
set_option linter.unusedVariables false
set_option maxRecDepth 100000
set_option linter.unusedSimpArgs false

/-! ### What may be -/

structure Nt where
  addr : Nat
  bits : Int
structure Tk where
  name : ByteArray
  sec : ByteArray
  till : Int
structure Tn where
  name : ByteArray
  names : Int
  visitors : Int
  nets : List Nt
  toks : List Tk
structure Cg where
  wait : Int
  grace : Int
  idle : Int
  lease : Int
  tens : List Tn

/-- Is one text less than another one? -/
def ltS (a b : ByteArray) : Bool := Op.bytesLess a.toList b.toList
/-- Are these names, each greater than the one ahead of it? -/
def rise : ByteArray → List ByteArray → Bool
  | _, [] => true
  | last, x :: r => nameB x && ltS last x && rise x r
def netB (n : Nt) : Bool := rightB n.addr n.bits
def tokB (k : Tk) : Bool := decide (1 ≤ k.sec.size) && decide (k.sec.size ≤ 32) && decide (0 ≤ k.till) && decide (k.till ≤ 1099511627776)
def quoB (n : Int) : Bool := decide (0 ≤ n) && decide (n ≤ 8)
def tenB (t : Tn) : Bool := quoB t.names && quoB t.visitors && decide (t.nets.length ≤ 4) && t.nets.all netB && decide (t.toks.length ≤ 4) && rise ByteArray.empty (t.toks.map (·.name)) && t.toks.all tokB
def timB (n : Int) : Bool := decide (1 ≤ n) && decide (n ≤ 1073741824)
def cfgB (c : Cg) : Bool := timB c.wait && timB c.grace && timB c.idle && timB c.lease && decide (c.tens.length ≤ 8) && rise ByteArray.empty (c.tens.map (·.name)) && c.tens.all tenB

theorem rise_app : ∀ (a b : List ByteArray) (l : ByteArray), rise l (a ++ b) = true → rise l a = true
  | [], _, _, _ => rfl
  | x :: a, b, l, h => by
    rw [List.cons_append, rise, Bool.and_eq_true] at h
    rw [rise, Bool.and_eq_true]
    exact ⟨h.1, rise_app a b x h.2⟩

/-! ### Lines -/

def wTimes : List UInt8 := [116, 105, 109, 101, 115]
def wTenant : List UInt8 := [116, 101, 110, 97, 110, 116]
def wNet : List UInt8 := [110, 101, 116]
def wToken : List UInt8 := [116, 111, 107, 101, 110]

def timesW (c : Cg) : List (List UInt8) := [wTimes, decB c.wait.toNat, decB c.grace.toNat, decB c.idle.toNat, decB c.lease.toNat]
def tenW (t : Tn) : List (List UInt8) := [wTenant, t.name.data.toList, decB t.names.toNat, decB t.visitors.toNat]
def netW (n : Nt) : List (List UInt8) := [wNet, slashL n.addr n.bits]
def tokW (k : Tk) : List (List UInt8) := [wToken, k.name.data.toList, hexB k.sec.data.toList, decB k.till.toNat]
def tenLs (t : Tn) : List (List (List UInt8)) := tenW t :: (t.nets.map netW ++ t.toks.map tokW)
def cfgLs (c : Cg) : List (List (List UInt8)) := timesW c :: c.tens.flatMap tenLs
def lineT (ws : List (List UInt8)) : List UInt8 := joinL 32 ws ++ [10]
def textT (ls : List (List (List UInt8))) : List UInt8 := ls.flatMap lineT
def printT (c : Cg) : List UInt8 := if cfgB c = true then textT (cfgLs c) else []

/-- The lines of a text, each with whether it has an end. -/
def linesL : List UInt8 → List (List UInt8 × Bool)
  | [] => []
  | x :: r => if x = 10 then ([], true) :: linesL r else
    match linesL r with
    | [] => [([x], false)]
    | (p, e) :: ps => (x :: p, e) :: ps

theorem linesL_cons (x : UInt8) (r : List UInt8) : ∃ p e ps, linesL (x :: r) = (p, e) :: ps := by
  unfold linesL
  by_cases h : x = 10
  · exact ⟨_, _, _, by rw [if_pos h]⟩
  · rw [if_neg h]
    split
    · exact ⟨_, _, _, rfl⟩
    · exact ⟨_, _, _, rfl⟩

theorem lines_cut : ∀ l : List UInt8, l ≠ [] → linesL l = ((cutL 10 l).1, (cutL 10 l).2.2) :: linesL (cutL 10 l).2.1
  | [], h => absurd rfl h
  | x :: r, _ => by
    rw [linesL, cutL]
    by_cases hx : x = 10
    · rw [if_pos hx, if_pos hx]
    · rw [if_neg hx, if_neg hx]
      cases r with
      | nil => rfl
      | cons y r =>
        have ih := lines_cut (y :: r) (by simp)
        rw [ih]

theorem lines_hit (p r : List UInt8) (h : (10 : UInt8) ∉ p) : linesL (p ++ 10 :: r) = (p, true) :: linesL r := by
  have := lines_cut (p ++ 10 :: r) (by simp)
  rw [this, cutL_hit 10 p r h]
theorem lines_miss (p : List UInt8) (h : (10 : UInt8) ∉ p) (h0 : p ≠ []) : linesL p = [(p, false)] := by
  have := lines_cut p h0
  rw [this, cutL_miss 10 p h]
  rfl
theorem lines_no : ∀ l : List UInt8, ∀ p e, (p, e) ∈ linesL l → (10 : UInt8) ∉ p
  | [], _, _, h => by cases h
  | x :: r, p, e, h => by
    have ih := lines_no r
    unfold linesL at h
    by_cases hx : x = 10
    · rw [if_pos hx] at h
      rcases List.mem_cons.1 h with h | h
      · injection h with h1 h2; rw [h1]; simp
      · exact ih p e h
    · rw [if_neg hx] at h
      cases hl : linesL r with
      | nil =>
        rw [hl] at h
        simp only [List.mem_singleton] at h
        injection h with h1 h2
        rw [h1]
        simp only [List.mem_singleton]
        exact fun k => hx k.symm
      | cons q qs =>
        obtain ⟨q1, q2⟩ := q
        rw [hl] at h ih
        simp only [List.mem_cons] at h
        rcases h with h | h
        · injection h with h1 h2
          rw [h1, List.mem_cons, not_or]
          exact ⟨fun k => hx k.symm, ih q1 q2 (by simp)⟩
        · exact ih p e (List.mem_cons_of_mem _ h)
/-- A text of whole lines is its lines. -/
theorem lines_text : ∀ l : List UInt8, (∀ x ∈ linesL l, x.2 = true) → l = (linesL l).flatMap fun x => x.1 ++ [10]
  | [], _ => rfl
  | x :: r, h => by
    have ih := lines_text r
    unfold linesL at h ⊢
    by_cases hx : x = 10
    · rw [if_pos hx] at h ⊢
      have := ih (fun y hy => h y (List.mem_cons_of_mem _ hy))
      rw [List.flatMap_cons, ← this, hx]; rfl
    · rw [if_neg hx] at h ⊢
      cases hl : linesL r with
      | nil =>
        rw [hl] at h
        have := h ([x], false) (by simp)
        cases this
      | cons q qs =>
        obtain ⟨q1, q2⟩ := q
        rw [hl] at h ih
        have := ih (fun y hy => by
          rcases List.mem_cons.1 hy with h1 | h1
          · rw [h1]; exact h (x :: q1, q2) (by simp)
          · exact h y (List.mem_cons_of_mem _ h1))
        simp only [List.flatMap_cons] at this ⊢
        rw [List.cons_append, List.cons_append, ← this]

/-! ### What is read -/

def decO (w : List UInt8) : Option Nat := (parseS (bs w)).map (·.1)
theorem decO_back (n : Nat) (h : n ≤ 1099511627776) : decO (decB n) = some n := by
  obtain ⟨k, hk⟩ := parse_back n h
  simp [decO, hk]
theorem decO_is (w : List UInt8) (n : Nat) (h : decO w = some n) : n ≤ 1099511627776 ∧ w = decB n := by
  unfold decO at h
  cases hp : parseS (bs w) with
  | none => rw [hp] at h; cases h
  | some x =>
    obtain ⟨m, k⟩ := x
    rw [hp] at h
    obtain rfl : m = n := by injection h
    obtain ⟨h1, h2⟩ := parse_is _ m k hp
    exact ⟨h1, bs_inj h2⟩

/-- With another last tenant. -/
def lastC (c : Cg) : Option Tn := c.tens.getLast?
def setC (c : Cg) (t : Tn) : Cg := { c with tens := c.tens.dropLast ++ [t] }
def zeroC : Cg := ⟨0, 0, 0, 0, []⟩

def readTimes (c : Cg) : List (List UInt8) → Option Cg
  | [a, b, d, e] => match decO a, decO b, decO d, decO e with
    | some a, some b, some d, some e => some ⟨a, b, d, e, c.tens⟩
    | _, _, _, _ => none
  | _ => none
def readTenant (c : Cg) : List (List UInt8) → Option Cg
  | [n, a, b] => match decO a, decO b with
    | some a, some b => some { c with tens := c.tens ++ [⟨bs n, a, b, [], []⟩] }
    | _, _ => none
  | _ => none
def readNet (c : Cg) : List (List UInt8) → Option Cg
  | [n] => match lastC c with
    | none => none
    | some t => if t.toks = [] then match netO (bs n) with
      | some x => some (setC c { t with nets := t.nets ++ [⟨x.1, x.2⟩] })
      | none => none
      else none
  | _ => none
def readToken (c : Cg) : List (List UInt8) → Option Cg
  | [n, s, u] => match lastC c with
    | none => none
    | some t => match unhexB s, decO u with
      | some b, some v => some (setC c { t with toks := t.toks ++ [⟨bs n, bs b, v⟩] })
      | _, _ => none
  | _ => none
def readW (c : Cg) : List (List UInt8) → Option Cg
  | [] => none
  | k :: ws => if k = wTimes then readTimes c ws else if k = wTenant then readTenant c ws else if k = wNet then readNet c ws else if k = wToken then readToken c ws else none
def okC (o : Option Cg) : Option Cg := match o with
  | some c => if cfgB c = true then some c else none
  | none => none
/-- One line, the first one or another one. -/
def lineC (c : Cg) (first : Bool) (ws : List (List UInt8)) : Option Cg := if decide (ws.head? = some wTimes) = first then okC (readW c ws) else none
def runL : Cg → Nat → List (List UInt8 × Bool) → Except Nat Cg
  | c, at', [] => if at' = 0 then .error 0 else .ok c
  | c, at', (l, e) :: r => if e = true then match lineC c (at' == 0) (piecesL 32 l) with
    | some c' => runL c' (at' + 1) r
    | none => .error at'
    else .error at'
def parseC (s : ByteArray) : Except Nat Cg := runL zeroC 0 (linesL s.data.toList)

end Go.Proofs.YtinbegnojfpeiaaDoor

/- Configurations in memory: rows of structs that slices read as. -/
namespace Go.Proofs.YtinbegnojfpeiaaDoor
set_option linter.unusedVariables false
set_option maxRecDepth 100000
set_option linter.unusedSimpArgs false
open Go.RowKit

/-- The slice at A reads as the rows l, of k cells each. -/
def Rw {β : Type} (k : Nat) (f : β → Array Value) (w : World) (A : Option Addr) (l : List β) : Prop :=
  l = [] ∨ ∃ b o, A = some ⟨b, o, none⟩ ∧ b < w.heap.size ∧ ∀ i, (h : i < l.length) → ∀ j, j < k → w.cell? ⟨b, o + i * k + j, none⟩ = (f l[i])[j]?
theorem Rw.nil {β : Type} {k : Nat} {f : β → Array Value} {w : World} {A : Option Addr} : Rw k f w A [] := .inl rfl
theorem Rw.on {β : Type} {k : Nat} {f : β → Array Value} {w w' : World} {A : Option Addr} {l : List β} (h : Rw k f w A l) (hb : Below w.heap.size w w') : Rw k f w' A l := by
  rcases h with h | ⟨b, o, e, hlt, hc⟩
  · exact .inl h
  · exact .inr ⟨b, o, e, Nat.lt_of_lt_of_le hlt hb.size, fun i hi j hj => (hb.cell (p := ⟨b, o + i * k + j, none⟩) hlt).trans (hc i hi j hj)⟩
/-- One of the rows, in every later world. -/
theorem Rw.at_ {β : Type} {k : Nat} {f : β → Array Value} {w : World} {A : Option Addr} {l : List β} (h : Rw k f w A l) (i : Nat) (hi : i < l.length) :
    ∃ b o x, A = some ⟨b, o, none⟩ ∧ l[i]? = some x ∧ ∀ u, Below w.heap.size w u → ∀ j, j < k → u.cell? ⟨b, o + i * k + j, none⟩ = (f x)[j]? := by
  rcases h with h | ⟨b, o, e, hlt, hc⟩
  · subst h; simp at hi
  · exact ⟨b, o, l[i], e, List.getElem?_eq_getElem hi, fun u hb j hj => (hb.cell (p := ⟨b, o + i * k + j, none⟩) hlt).trans (hc i hi j hj)⟩

abbrev ncs (n : Nt) : Array Value := #[.int .u32 (n.addr : Int), .int .i64 n.bits]
abbrev kcs (k : Tk) : Array Value := #[.string k.name, .string k.sec, .int .i64 k.till]
/-- A tenant, with where its rows lie. -/
structure Tv where
  t : Tn
  An : Option Addr
  cn : Nat
  Ak : Option Addr
  ck : Nat
abbrev tcs (x : Tv) : Array Value := #[.string x.t.name, .int .i64 x.t.names, .int .i64 x.t.visitors, .slice x.An x.t.nets.length x.cn, .slice x.Ak x.t.toks.length x.ck]
structure Cv where
  wait : Int
  grace : Int
  idle : Int
  lease : Int
  ts : List Tv
  A : Option Addr
  c : Nat
abbrev ccs (x : Cv) : Array Value := #[.int .i64 x.wait, .int .i64 x.grace, .int .i64 x.idle, .int .i64 x.lease, .slice x.A x.ts.length x.c]
def Cv.cg (x : Cv) : Cg := ⟨x.wait, x.grace, x.idle, x.lease, x.ts.map (·.t)⟩

/-- Where a slice of n rows may lie. -/
structure Fit (A : Option Addr) (n c : Nat) : Prop where
  cap : n ≤ c
  max : c ≤ 9223372036854775807
  nil_ : A = none → n = 0 ∧ c = 0

abbrev RN (w : World) (A : Option Addr) (l : List Nt) : Prop := Rw 2 ncs w A l
abbrev RK (w : World) (A : Option Addr) (l : List Tk) : Prop := Rw 3 kcs w A l
structure RT1 (w : World) (x : Tv) : Prop where
  n : RN w x.An x.t.nets
  k : RK w x.Ak x.t.toks
  fn : Fit x.An x.t.nets.length x.cn
  fk : Fit x.Ak x.t.toks.length x.ck
  lt : ∀ n ∈ x.t.nets, n.addr < 4294967296
  sz : x.t.name.size ≤ 140737488355328
  szk : ∀ k ∈ x.t.toks, k.name.size ≤ 140737488355328 ∧ k.sec.size ≤ 140737488355328
theorem RT1.on {w w' : World} {x : Tv} (h : RT1 w x) (hb : Below w.heap.size w w') : RT1 w' x := ⟨h.n.on hb, h.k.on hb, h.fn, h.fk, h.lt, h.sz, h.szk⟩
structure RT (w : World) (A : Option Addr) (l : List Tv) : Prop where
  r : Rw 5 tcs w A l
  each : ∀ x ∈ l, RT1 w x
theorem RT.on {w w' : World} {A : Option Addr} {l : List Tv} (h : RT w A l) (hb : Below w.heap.size w w') : RT w' A l := ⟨h.r.on hb, fun x hx => (h.each x hx).on hb⟩
/-- The configuration x lies in memory. -/
structure RC (w : World) (x : Cv) : Prop where
  r : RT w x.A x.ts
  f : Fit x.A x.ts.length x.c
theorem RC.on {w w' : World} {x : Cv} (h : RC w x) (hb : Below w.heap.size w w') : RC w' x := ⟨h.r.on hb, h.f⟩

theorem RN.at2 {w : World} {A : Option Addr} {l : List Nt} (h : RN w A l) (i : Nat) (hi : i < l.length) :
    ∃ b o x, A = some ⟨b, o, none⟩ ∧ l[i]? = some x ∧ ∀ u, Below w.heap.size w u → u.cell? ⟨b, o + i * 2, none⟩ = some (.int .u32 (x.addr : Int)) ∧ u.cell? ⟨b, o + i * 2 + 1, none⟩ = some (.int .i64 x.bits) := by
  obtain ⟨b, o, x, h1, h2, h3⟩ := Rw.at_ h i hi
  exact ⟨b, o, x, h1, h2, fun u hb => ⟨h3 u hb 0 (by omega), h3 u hb 1 (by omega)⟩⟩
theorem RK.at3 {w : World} {A : Option Addr} {l : List Tk} (h : RK w A l) (i : Nat) (hi : i < l.length) :
    ∃ b o x, A = some ⟨b, o, none⟩ ∧ l[i]? = some x ∧ ∀ u, Below w.heap.size w u → u.cell? ⟨b, o + i * 3, none⟩ = some (.string x.name) ∧ u.cell? ⟨b, o + i * 3 + 1, none⟩ = some (.string x.sec) ∧ u.cell? ⟨b, o + i * 3 + 2, none⟩ = some (.int .i64 x.till) := by
  obtain ⟨b, o, x, h1, h2, h3⟩ := Rw.at_ h i hi
  exact ⟨b, o, x, h1, h2, fun u hb => ⟨h3 u hb 0 (by omega), h3 u hb 1 (by omega), h3 u hb 2 (by omega)⟩⟩
theorem RT.at5 {w : World} {A : Option Addr} {l : List Tv} (h : RT w A l) (i : Nat) (hi : i < l.length) :
    ∃ b o x, A = some ⟨b, o, none⟩ ∧ l[i]? = some x ∧ RT1 w x ∧ ∀ u, Below w.heap.size w u → u.cell? ⟨b, o + i * 5, none⟩ = some (.string x.t.name) ∧ u.cell? ⟨b, o + i * 5 + 1, none⟩ = some (.int .i64 x.t.names) ∧ u.cell? ⟨b, o + i * 5 + 2, none⟩ = some (.int .i64 x.t.visitors) ∧
      u.cell? ⟨b, o + i * 5 + 3, none⟩ = some (.slice x.An x.t.nets.length x.cn) ∧ u.cell? ⟨b, o + i * 5 + 4, none⟩ = some (.slice x.Ak x.t.toks.length x.ck) := by
  obtain ⟨b, o, x, h1, h2, h3⟩ := Rw.at_ h.r i hi
  exact ⟨b, o, x, h1, h2, h.each x (List.mem_of_getElem? h2), fun u hb => ⟨h3 u hb 0 (by omega), h3 u hb 1 (by omega), h3 u hb 2 (by omega), h3 u hb 3 (by omega), h3 u hb 4 (by omega)⟩⟩
end Go.Proofs.YtinbegnojfpeiaaDoor

/- What comes in, opened into my own words. Nothing of the program is named here. -/
namespace Go.Proofs.YtinbegnojfpeiaaDoor
set_option linter.unusedVariables false
set_option maxRecDepth 100000
set_option linter.unusedSimpArgs false
open Go.ChangeShapes Go.WideShapes Go.ChangeAt Go.RowKit

/-- A slice of bytes that came in. -/
structure InB (W : World) (A : Option Addr) (l : List UInt8) (n c : Nat) : Prop where
  rb : Rb W W.heap.size A l
  len : l.length = n
  cap : n ≤ c
  max : c ≤ maxLen
  nil_ : A = none → n = 0 ∧ c = 0

/-- A slice of integers that came in. -/
structure InN (k : IntKind) (W : World) (A : Option Addr) (l : List Int) (n c : Nat) : Prop where
  len : l.length = n
  cap : n ≤ c
  max : c ≤ maxLen
  nil_ : A = none → n = 0 ∧ c = 0
  at_ : n = 0 ∨ ∃ b o, A = some ⟨b, o, none⟩ ∧ b < W.heap.size ∧ ∀ i, (h : i < l.length) → W.cell? ⟨b, o + i, none⟩ = some (.int k l[i])
  wf : ∀ x ∈ l, (Lit.int k x).wf = true

theorem add_plain (b o i : Nat) : (⟨b, o, none⟩ : Addr).add i = ⟨b, o + i, none⟩ := by unfold Addr.add; split <;> simp_all

theorem open_nums {H : Type} {enc : TypeId × Value → H} {P : Program} {W : World} {A : Option Addr} {n c : Nat} {t e : TypeId} {k : IntKind} {d : DataW H} {p : List MemPlace} (ht : P.underlying t = some (.slice e)) (he : P.underlying e = some (.int k)) (hc : P.cellsOf e = 1)
    (h : DataW.Trod enc P W 0 (fun _ => true) true t (.slice A n c) d p) : ∃ l, InN k W A l n c := by
  obtain ⟨fuel, hf⟩ := h
  rcases open_ints ht he hc hf with ⟨hcs, _⟩ | ⟨x, ln, cp, zs, hcs, _, hl, hm, hz, _, hcell, hwz⟩
  · simp [Value.cells] at hcs
    obtain ⟨rfl, rfl, rfl⟩ := hcs
    exact ⟨[], ⟨rfl, Nat.le_refl _, by unfold maxLen; omega, fun _ => ⟨rfl, rfl⟩, .inl rfl, fun x hx => by cases hx⟩⟩
  · simp [Value.cells] at hcs
    obtain ⟨rfl, rfl, rfl⟩ := hcs
    have hzl : zs.length = c := by simpa using hz
    refine ⟨zs.take n, ⟨by rw [List.length_take]; omega, hl, hm, (fun h => by cases h), ?_, fun y hy => hwz y (List.mem_of_mem_take hy)⟩⟩
    by_cases h0 : n = 0
    · exact .inl h0
    · right
      obtain ⟨b, o, spot⟩ := x
      have hc0 := hcell 0 (by omega)
      have hspot : spot = none := by simpa [Addr.add] using World.cell?_spot hc0
      subst hspot
      refine ⟨b, o, rfl, ?_, fun i hi => ?_⟩
      · have := World.block_lt_of_cell? W _ hc0
        rw [add_plain] at this
        exact this
      · have hi' : i < zs.length := by rw [List.length_take] at hi; omega
        have := hcell i hi'
        rw [add_plain] at this
        rw [this]
        simp [List.getD, hi']

theorem open_bytes {H : Type} {enc : TypeId × Value → H} {P : Program} {W : World} {A : Option Addr} {n c : Nat} {t e : TypeId} {d : DataW H} {p : List MemPlace} (ht : P.underlying t = some (.slice e)) (he : P.underlying e = some (.int .u8)) (hc : P.cellsOf e = 1)
    (h : DataW.Trod enc P W 0 (fun _ => true) true t (.slice A n c) d p) : ∃ l, InB W A l n c := by
  obtain ⟨zs, hz⟩ := open_nums ht he hc h
  refine ⟨zs.map fun z => UInt8.ofNat z.toNat, ⟨?_, by rw [List.length_map]; exact hz.len, hz.cap, hz.max, hz.nil_⟩⟩
  rcases hz.at_ with h0 | ⟨b, o, e1, hb, hcell⟩
  · left
    have : zs = [] := List.eq_nil_of_length_eq_zero (by rw [hz.len, h0])
    rw [this]; rfl
  · right
    refine ⟨b, o, e1, hb, fun i hi => ?_⟩
    have hi' : i < zs.length := by simpa using hi
    rw [hcell i hi']
    have hw := hz.wf zs[i] (List.getElem_mem hi')
    have hr : 0 ≤ zs[i] ∧ zs[i] < 256 := by
      have e1 : IntKind.u8.min = 0 := by decide
      have e2 : IntKind.u8.max = 255 := by decide
      simp only [Lit.wf, e1, e2, Bool.and_eq_true, decide_eq_true_eq] at hw
      omega
    have : ((UInt8.ofNat (zs[i].toNat)).toNat : Int) = zs[i] := by
      rw [UInt8.toNat_ofNat']
      omega
    simp only [List.getElem_map]
    rw [this]

end Go.Proofs.YtinbegnojfpeiaaDoor

/- append as one operation of a region. Nothing of the program is named here. -/
namespace Go.Proofs.YtinbegnojfpeiaaDoor
set_option linter.unusedVariables false
set_option maxRecDepth 100000
set_option linter.unusedSimpArgs false
open Go.RowKit

/-- append of bytes, as one operation. -/
theorem op_app {P : Program} {o : Oper} {a : Act} {K : Act → World → Prop} {Q : Exit → Act → World → Prop} {w : World} (s x : Operand) (t e : TypeId)
    (ho : o.op = .call { callee := .builtin .append, args := #[s, x], argTypes := #[t, t] }) (ht : P.underlying t = some (.slice e))
    (hi : (P.info? e).map (fun i => (i.zero, i.size, i.bytes)) = some (some (.int .u8 0), 1, 1)) (B : Nat) (l : List UInt8) (A : Option Addr) (n c : Nat) (hs : a.eval s = .slice A n c) (hn : l.length = n) (hown : OB w B e A c l)
    (k : List UInt8) (ad : Addr) (m c' B' : Nat) (hx : a.eval x = .slice (some ad) m c') (hm : k.length = m) (hR : Rb w B' (some ad) k)
    (hlen : l.length + k.length ≤ 140737488355328) (hbase : B ≤ w.heap.size)
    (h : ∀ A2 c2 w', OB w' B e A2 c2 (l ++ k) → w.grownBy w' (Value.slice A n c).ownBlock → Below B w w' → K (a.put o.dst (.slice A2 (l ++ k).length c2)) w') : o.wp P a w K Q := by
  subst hn; subst hm
  obtain ⟨i, hi1, hz, hsz, hby⟩ := info_parts hi
  refine wp_append_own w s x t ho B e i (.int .u8 0) 1 1 ht hi1 hz hsz hby rfl (by decide) _ l.length (l.map u8) hs hown ad k.length c' (k.map u8) hx (by simp) ?_ ?_ (by unfold maxLen; omega) (by omega) hbase ?_
  · intro j u hu
    have hj : j < k.length := by
      rcases Nat.lt_or_ge j k.length with h1 | h1
      · exact h1
      · rw [List.getElem?_eq_none (by simpa using h1)] at hu; cases hu
    rcases hR with h0 | ⟨b, off, e1, _, hc⟩
    · subst h0; simp at hj
    · injection e1 with e1
      subst e1
      rw [add_plain, hc j hj]
      simp [hj] at hu
      exact congrArg some hu
  · intro u hu
    obtain ⟨b, _, rfl⟩ := List.mem_map.1 hu
    rfl
  · intro v' w' hown' hg _
    have hbel : Below B w w' := (Below.refl B w).grown hg hbase (fun k hk => (World.ownsRow.lt hown k hk).1)
    have hlen' : (l ++ k).length = l.length + k.length := List.length_append
    by_cases h0 : l ++ k = []
    · have h00 : l.length + k.length = 0 := by rw [← hlen', h0]; rfl
      rw [h00] at hown'
      rcases hown'.2 with ⟨rfl, _⟩ | ⟨g, cap, cur, rfl, _, r⟩
      · have := h none 0 w' (by rw [h0]; exact OB.nil w' B e) hg hbel
        rwa [h0] at this
      · have := h (some ⟨g, 0, none⟩) cap w' (by
          rw [h0]
          have e2 : List.map u8 l ++ List.map u8 k = [] := by rw [← List.map_append, h0]; rfl
          rw [e2] at hown'
          exact hown') hg hbel
        rwa [h0] at this
    · have hp : 0 < l.length + k.length := by rw [← hlen']; exact List.length_pos_iff.2 h0
      obtain ⟨g, cap, rfl, _, _⟩ := World.ownsRow.form hown' hp
      have := h (some ⟨g, 0, none⟩) cap w' (by unfold OB; rw [hlen', List.map_append]; exact hown') hg hbel
      rwa [hlen'] at this

/-- What the call owns stays owned where nothing that was there has turned. -/
theorem OB.stay {w w' : World} {B B' : Nat} {e : TypeId} {A : Option Addr} {c : Nat} {l : List UInt8} (h : OB w B e A c l) (hb : Below B' w w') (hB : w.heap.size ≤ B') : OB w' B e A c l := by
  refine ⟨h.1, ?_⟩
  rcases h.2 with hn | ⟨g, cap, cur, hv, hg, hh, r⟩
  · exact .inl hn
  · refine .inr ⟨g, cap, cur, hv, hg, ?_, r⟩
    rw [hb.block g (Nat.lt_of_lt_of_le (lt_of_block hh) hB)]
    exact hh

/-- What lies in another block than the row that has grown reads as it did. -/
theorem Rb.grown {w w' : World} {B : Nat} {g : Nat} {l : List UInt8} {row : Option Nat} (h : Rb w B (some ⟨g, 0, none⟩) l) (hg : w.grownBy w' row) (hlt : g < w.heap.size) (hne : row ≠ some g) : Rb w' B (some ⟨g, 0, none⟩) l := by
  rcases h with h | ⟨b, o, e, hb, hc⟩
  · exact .inl h
  · injection e with e
    injection e with e1 e2
    subst e1; subst e2
    exact .inr ⟨g, 0, rfl, hb, fun i hi => hg.cell (hc i hi) (fun h => hne h.symm)⟩

theorem OB.row {w : World} {B : Nat} {e : TypeId} {A : Option Addr} {n c : Nat} {l : List UInt8} (h : OB w B e A c l) (g : Nat) (hn : (Value.slice A n c).ownBlock = some g) : B ≤ g ∧ g < w.heap.size := by
  rcases h.2 with ⟨hv, _⟩ | ⟨g', cap, cur, hv, hb, hh, _⟩
  · injection hv with h1
    subst h1
    cases hn
  · injection hv with h1
    subst h1
    simp [Value.ownBlock] at hn
    subst hn
    exact ⟨hb, lt_of_block hh⟩

/-- The same, what is appended being nil or not. -/
theorem op_app_any {P : Program} {o : Oper} {a : Act} {K : Act → World → Prop} {Q : Exit → Act → World → Prop} {w : World} (s x : Operand) (t e : TypeId)
    (ho : o.op = .call { callee := .builtin .append, args := #[s, x], argTypes := #[t, t] }) (ht : P.underlying t = some (.slice e))
    (hi : (P.info? e).map (fun i => (i.zero, i.size, i.bytes)) = some (some (.int .u8 0), 1, 1)) (B : Nat) (l : List UInt8) (A : Option Addr) (n c : Nat) (hs : a.eval s = .slice A n c) (hn : l.length = n) (hown : OB w B e A c l)
    (k : List UInt8) (A' : Option Addr) (m c' B' : Nat) (hx : a.eval x = .slice A' m c') (hm : k.length = m) (hnil : A' = none → m = 0 ∧ c' = 0) (hR : Rb w B' A' k)
    (hlen : l.length + k.length ≤ 140737488355328) (hbase : B ≤ w.heap.size)
    (h : ∀ A2 c2 w', OB w' B e A2 c2 (l ++ k) → w.grownBy w' (Value.slice A n c).ownBlock → Below B w w' → K (a.put o.dst (.slice A2 (l ++ k).length c2)) w') : o.wp P a w K Q := by
  cases A' with
  | some ad => exact op_app s x t e ho ht hi B l A n c hs hn hown k ad m c' B' hx hm hR hlen hbase h
  | none =>
    obtain ⟨rfl, rfl⟩ := hnil rfl
    have hk : k = [] := List.eq_nil_of_length_eq_zero hm
    subst hk
    subst hn
    obtain ⟨i, hi1, hz, hsz, hby⟩ := info_parts hi
    have hrun := run_append_owned_none (P := P) (w := w) B t o.type e i 1 ht hi1 _ l.length (l.map u8) hown
    unfold Oper.wp
    simp [execOp, ho, resolve, invoke, builtin, hs, hx, hrun, Result.andThen]
    have := h A c w (by simpa using hown) (World.grownBy.refl w _) (Below.refl B w)
    exact (by simpa using this : K (a.put o.dst (Value.slice A l.length c)) w)
/-- append of a text's bytes, as one operation. -/
theorem op_app_str {P : Program} {o : Oper} {a : Act} {K : Act → World → Prop} {Q : Exit → Act → World → Prop} {w : World} (sl x : Operand) (t u e : TypeId)
    (ho : o.op = .call { callee := .builtin .append, args := #[sl, x], argTypes := #[t, u] }) (ht : P.underlying t = some (.slice e)) (hu : P.underlying u = some .string)
    (hi : (P.info? e).map (fun i => (i.zero, i.size, i.bytes)) = some (some (.int .u8 0), 1, 1)) (B : Nat) (l : List UInt8) (A : Option Addr) (n c : Nat) (hs : a.eval sl = .slice A n c) (hn : l.length = n) (hown : OB w B e A c l)
    (s : ByteArray) (hx : a.eval x = .string s) (hlen : l.length + s.size ≤ 140737488355328) (hbase : B ≤ w.heap.size)
    (h : ∀ A2 c2 w', OB w' B e A2 c2 (l ++ s.data.toList) → w.grownBy w' (Value.slice A n c).ownBlock → Below B w w' → K (a.put o.dst (.slice A2 (l ++ s.data.toList).length c2)) w') : o.wp P a w K Q := by
  subst hn
  obtain ⟨i, hi1, hz, hsz, hby⟩ := info_parts hi
  obtain ⟨v', w', hr, hown', hg, _⟩ := Go.Lib.run_append_own_string (P := P) w B t u o.type e i ht hu hi1 hz hsz hby _ l.length (l.map u8) hown s (by unfold maxLen; omega) (by omega) hbase
  have hK : K (a.put o.dst v') w' := by
    have hbel : Below B w w' := (Below.refl B w).grown hg hbase (fun k hk => (World.ownsRow.lt hown k hk).1)
    have hsl : s.data.toList.length = s.size := rfl
    have hlen' : (l ++ s.data.toList).length = l.length + s.size := by rw [List.length_append, hsl]
    have hst : Go.Lib.strCells s = s.data.toList.map u8 := rfl
    rw [hst, ← List.map_append] at hown'
    rw [← hlen'] at hown'
    by_cases h0 : l ++ s.data.toList = []
    · rw [h0] at hown'
      rcases hown'.2 with ⟨rfl, _⟩ | ⟨g, cap, cur, rfl, _, r⟩
      · have := h none 0 w' (by rw [h0]; exact OB.nil w' B e) hg hbel
        rwa [h0] at this
      · have := h (some ⟨g, 0, none⟩) cap w' (by rw [h0]; exact hown') hg hbel
        rwa [h0] at this
    · have hp : 0 < (l ++ s.data.toList).length := List.length_pos_iff.2 h0
      obtain ⟨g, cap, rfl, _, _⟩ := World.ownsRow.form hown' hp
      exact h (some ⟨g, 0, none⟩) cap w' hown' hg hbel
  unfold Oper.wp execOp
  simp only [ho, resolve, invoke, builtin, Sem.run_bind, Sem.run_pure, Result.andThen_ok, List.map_toArray, List.map_cons, List.map_nil, hs, hx, hr]
  exact hK
/-- An operation whose guard is met. -/
theorem wpList_wanted {P : Program} {ops : Array Oper} {Q : Exit → Act → World → Prop} {a : Act} {w : World} {rest : List Oper} {o : Oper} (hw : Region.wanted o (yielded ops a.tmps) = true)
    (h : ∀ K : Act → World → Prop, (∀ a w, wpList P ops Q rest a w → K a w) → o.wp P a w K Q) : wpList P ops Q (o :: rest) a w :=
  wpList_step fun K hK => by simp only [hw, if_true]; exact h K hK
theorem OB.drew {w : World} {B : Nat} {e : TypeId} {A : Option Addr} {c : Nat} {l : List UInt8} (h : OB w B e A c l) : OB w.drew B e A c l := World.ownsRow.drew h
theorem Rb.two {w : World} {t : TypeId} {a b : UInt8} : Rb (w.alloc (.cells #[.int .u8 (a.toNat : Int), .int .u8 (b.toNat : Int)] t)) (w.heap.size + 1) (some ⟨w.heap.size, 0, none⟩) [a, b] := Rb.bk (t := t) (l := [a, b]) (Bk.new w t _)
end Go.Proofs.YtinbegnojfpeiaaDoor

/- Rows of structs that the call owns; append of rows of structs. -/
namespace Go.Proofs.YtinbegnojfpeiaaDoor
set_option linter.unusedVariables false
set_option maxRecDepth 100000
set_option linter.unusedSimpArgs false
open Go.RowKit

def fl {β : Type} (f : β → Array Value) (l : List β) : List Value := l.flatMap fun x => (f x).toList
theorem fl_app {β : Type} (f : β → Array Value) (a b : List β) : fl f (a ++ b) = fl f a ++ fl f b := by simp [fl]
theorem fl_length {β : Type} {k : Nat} {f : β → Array Value} (hf : ∀ x, (f x).size = k) : ∀ l : List β, (fl f l).length = l.length * k
  | [] => by simp [fl]
  | x :: l => by
    have := fl_length hf l
    simp only [fl, List.flatMap_cons, List.length_append, Array.length_toList, hf, List.length_cons] at this ⊢
    rw [this, Nat.add_mul, Nat.one_mul, Nat.add_comm]
theorem fl_at {β : Type} {k : Nat} {f : β → Array Value} (hf : ∀ x, (f x).size = k) : ∀ (l : List β) (i : Nat) (h : i < l.length) (j : Nat), j < k → (fl f l)[i * k + j]? = (f l[i])[j]?
  | [], i, h, _, _ => by simp at h
  | x :: l, 0, h, j, hj => by
    simp only [fl, List.flatMap_cons, Nat.zero_mul, Nat.zero_add, List.getElem_cons_zero]
    rw [List.getElem?_append_left (by rw [Array.length_toList, hf]; exact hj), Array.getElem?_toList]
  | x :: l, i + 1, h, j, hj => by
    have := fl_at hf l i (by simpa using h) j hj
    simp only [fl, List.flatMap_cons, List.getElem_cons_succ] at this ⊢
    rw [List.getElem?_append_right (by rw [Array.length_toList, hf, Nat.add_mul]; omega), Array.length_toList, hf, Nat.add_mul, Nat.one_mul, ← this]
    congr 1
    omega
theorem fl_mem {β : Type} {f : β → Array Value} {l : List β} {u : Value} (h : u ∈ fl f l) : ∃ x ∈ l, u ∈ f x := by
  obtain ⟨x, hx, hu⟩ := List.mem_flatMap.1 h
  exact ⟨x, hx, by simpa using hu⟩
theorem fl_all {β : Type} {k : Nat} {f : β → Array Value} (hf : ∀ x, (f x).size = k) (hk : 0 < k) (l : List β) (q : Nat) (u : Value) (h : (fl f l)[q]? = some u) : ∃ i j, ∃ hi : i < l.length, j < k ∧ q = i * k + j ∧ (f l[i])[j]? = some u := by
  have hq : q < l.length * k := by
    have := (List.getElem?_eq_some_iff.1 h).1
    rwa [fl_length hf] at this
  have h1 : q / k < l.length := (Nat.div_lt_iff_lt_mul hk).2 hq
  have h2 := Nat.mod_lt q hk
  have h3 : q = q / k * k + q % k := by rw [Nat.mul_comm]; exact (Nat.div_add_mod q k).symm
  refine ⟨q / k, q % k, h1, h2, h3, ?_⟩
  rw [← fl_at hf l (q / k) h1 (q % k) h2, ← h3, h]

/-- How rows of a type lie. -/
structure Ro {β : Type} (P : Program) (t e : TypeId) (k by_ : Nat) (f : β → Array Value) : Prop where
  ht : P.underlying t = some (.slice e)
  hi : ∃ i z, P.info? e = some i ∧ i.zero = some z ∧ i.size = k ∧ i.bytes = by_ ∧ z.cells.size = k
  k0 : 0 < k
  fs : ∀ x, (f x).size = k
  one : ∀ x, ∀ u ∈ f x, u.oneCell' = true
  few : by_ ≤ 128

/-- The slice at A, of capacity c, owns the rows l: it lies at block B or behind it. -/
def Ow {β : Type} (e : TypeId) (k : Nat) (f : β → Array Value) (w : World) (B : Nat) (A : Option Addr) (c : Nat) (l : List β) : Prop := w.ownsRow B e k (.slice A l.length c) l.length (fl f l)

section
variable {β : Type} {P : Program} {t e : TypeId} {k by_ : Nat} {f : β → Array Value} {w w' : World} {B : Nat} {A : Option Addr} {c : Nat} {l : List β}

theorem Ow.nil (w : World) (B : Nat) : Ow e k f w B none 0 [] := World.ownsRow_nil w B e k
theorem Ow.rw_ (hf : ∀ x, (f x).size = k) (h : Ow e k f w B A c l) : Rw k f w A l := by
  by_cases h0 : l = []
  · exact .inl h0
  · have hp : 0 < l.length := List.length_pos_iff.2 h0
    obtain ⟨g, cap, hv, hb, hl⟩ := World.ownsRow.form h hp
    injection hv with h1 _ _
    subst h1
    refine .inr ⟨g, 0, rfl, hl, fun i hi j hj => ?_⟩
    have hlt : i * k + j < l.length * k := by
      have h2 : (i + 1) * k ≤ l.length * k := Nat.mul_le_mul_right k (by omega)
      rw [Nat.add_mul, Nat.one_mul] at h2
      omega
    have e1 := World.ownsRow.cellAt h (i * k + j) hlt
    rw [Nat.zero_add, e1, fl_at hf l i hi j hj]
theorem Ow.fit (h : Ow e k f w B A c l) : Fit A l.length c := by
  rcases h.2 with ⟨hv, h0⟩ | ⟨g, cap, cur, hv, _, _, hn, hm, _⟩
  · injection hv with h1 _ h3
    exact ⟨by omega, by omega, fun _ => ⟨h0, h3⟩⟩
  · injection hv with h1 _ h3
    unfold maxLen at hm
    exact ⟨by omega, by omega, fun e => by rw [e] at h1; cases h1⟩
/-- What the call owns stays owned where its block stays. -/
theorem Ow.keep (h : Ow e k f w B A c l) (hk : ∀ g cs, B ≤ g → Bk w g e cs → Bk w' g e cs) : Ow e k f w' B A c l := by
  refine ⟨h.1, ?_⟩
  rcases h.2 with hn | ⟨g, cap, cur, hv, hg, hh, r⟩
  · exact .inl hn
  · exact .inr ⟨g, cap, cur, hv, hg, hk g cur hg hh, r⟩
theorem Ow.set (h : Ow e k f w B A c l) {p : Addr} (hp : p.block < B) (v : Value) : Ow e k f (w.setCell p v) B A c l := h.keep fun g cs hg hh => hh.far (by omega) v
theorem Ow.on (h : Ow e k f w B A c l) (hb : Below w.heap.size w w') : Ow e k f w' B A c l := h.keep fun g cs _ hh => hh.below hb hh.lt
/-- Its block. -/
theorem Ow.block (h : Ow e k f w B A c l) (n : Nat) (g : Nat) (hn : (Value.slice A n c).ownBlock = some g) : B ≤ g ∧ g < w.heap.size ∧ ∃ cs, Bk w g e cs := by
  rcases h.2 with ⟨hv, _⟩ | ⟨g', cap, cur, hv, hb, hh, _⟩
  · injection hv with h1
    subst h1
    cases hn
  · injection hv with h1
    subst h1
    simp [Value.ownBlock] at hn
    subst hn
    exact ⟨hb, lt_of_block hh, cur, hh⟩
theorem Rw.bk {g : Nat} {t' : TypeId} {x : β} (h : Bk w g t' (f x)) : Rw k f w (some ⟨g, 0, none⟩) [x] :=
  .inr ⟨g, 0, rfl, h.lt, fun i hi j _ => by
    have hi0 : i = 0 := by simp at hi; omega
    subst hi0
    rw [h.cell]; simp⟩

/-- append of rows, as one operation. -/
theorem op_rows (R : Ro P t e k by_ f) {o : Oper} {a : Act} {K : Act → World → Prop} {Q : Exit → Act → World → Prop} (s x : Operand)
    (ho : o.op = .call { callee := .builtin .append, args := #[s, x], argTypes := #[t, t] }) (n : Nat) (hs : a.eval s = .slice A n c) (hn : l.length = n) (hown : Ow e k f w B A c l)
    (M : List β) (A' : Option Addr) (m c' : Nat) (hx : a.eval x = .slice A' m c') (hm : M.length = m) (hnil : A' = none → m = 0 ∧ c' = 0) (hR : Rw k f w A' M)
    (hlen : n + m ≤ 1099511627776) (hbase : B ≤ w.heap.size) (s' : Nat) (hsum : n + m = s')
    (h : ∀ A2 c2 w', Ow e k f w' B A2 c2 (l ++ M) → w.grownBy w' (Value.slice A n c).ownBlock → Below B w w' → K (a.put o.dst (.slice A2 s' c2)) w') : o.wp P a w K Q := by
  obtain ⟨i, z, hi1, hz, hsz, hby, hzc⟩ := R.hi
  subst hn; subst hm; subst hsum
  cases A' with
  | none =>
    obtain ⟨h0, rfl⟩ := hnil rfl
    have hk : M = [] := List.eq_nil_of_length_eq_zero h0
    subst hk
    have hrun := run_append_owned_none (P := P) (w := w) B t o.type e i k R.ht hi1 _ l.length (fl f l) hown
    unfold Oper.wp
    simp [execOp, ho, resolve, invoke, builtin, hs, hx, hrun, Result.andThen]
    have := h A c w (by simpa using hown) (World.grownBy.refl w _) (Below.refl B w)
    exact (by simpa using this : K (a.put o.dst (Value.slice A l.length c)) w)
  | some ad =>
    have hb8 : (l.length + M.length) * by_ ≤ 140737488355328 := Nat.le_trans (Nat.mul_le_mul hlen R.few) (by decide)
    refine wp_append_own w s x t ho B e i z k by_ R.ht hi1 hz hsz hby hzc R.k0 _ l.length (fl f l) hs hown ad M.length c' (fl f M) hx (fl_length R.fs M) ?_ ?_ (by unfold maxLen; omega) hb8 hbase ?_
    · intro q u hu
      obtain ⟨i', j, hi', hj, rfl, hv⟩ := fl_all R.fs R.k0 M q u hu
      rcases hR with h0 | ⟨b, o', e1, _, hc⟩
      · subst h0; simp at hi'
      · injection e1 with e1
        subst e1
        rw [add_plain, ← Nat.add_assoc, hc i' hi' j hj, hv]
    · intro u hu
      obtain ⟨y, _, hy⟩ := fl_mem hu
      exact R.one y u hy
    · intro v' w' hown' hg _
      have hbel : Below B w w' := (Below.refl B w).grown hg hbase (fun k hk => (World.ownsRow.lt hown k hk).1)
      have hlen' : (l ++ M).length = l.length + M.length := List.length_append
      rw [← fl_app] at hown'
      rw [← hlen'] at hown'
      by_cases h0 : l ++ M = []
      · rw [h0] at hown'
        rcases hown'.2 with ⟨rfl, _⟩ | ⟨g, cap, cur, rfl, _, r⟩
        · have := h none 0 w' (by rw [h0]; exact Ow.nil w' B) hg hbel
          rwa [← hlen', h0] at this
        · have := h (some ⟨g, 0, none⟩) cap w' (by rw [h0]; exact hown') hg hbel
          rwa [← hlen', h0] at this
      · have hp : 0 < (l ++ M).length := List.length_pos_iff.2 h0
        obtain ⟨g, cap, rfl, _, _⟩ := World.ownsRow.form hown' hp
        have := h (some ⟨g, 0, none⟩) cap w' hown' hg hbel
        rwa [← hlen'] at this
/-- The same, in a region that draws nothing. -/
theorem wp_rows (R : Ro P t e k by_ f) {ops : Array Oper} {rest : List Oper} {o : Oper} {a : Act} {Q : Exit → Act → World → Prop} (hw : Region.wanted o (yielded ops a.tmps) = true) (s x : Operand)
    (ho : o.op = .call { callee := .builtin .append, args := #[s, x], argTypes := #[t, t] }) (n : Nat) (hs : a.eval s = .slice A n c) (hn : l.length = n) (hown : Ow e k f w B A c l)
    (M : List β) (A' : Option Addr) (m c' : Nat) (hx : a.eval x = .slice A' m c') (hm : M.length = m) (hnil : A' = none → m = 0 ∧ c' = 0) (hR : Rw k f w A' M)
    (hlen : n + m ≤ 1099511627776) (hbase : B ≤ w.heap.size) (s' : Nat) (hsum : n + m = s')
    (h : ∀ A2 c2 w', Ow e k f w' B A2 c2 (l ++ M) → w.grownBy w' (Value.slice A n c).ownBlock → Below B w w' → wpList P ops Q rest (a.put o.dst (.slice A2 s' c2)) w') : wpList P ops Q (o :: rest) a w :=
  wpList_wanted hw fun K hK => op_rows R s x ho n hs hn hown M A' m c' hx hm hnil hR hlen hbase s' hsum (fun A2 c2 w' k1 k2 k3 => hK _ _ (h A2 c2 w' k1 k2 k3))
theorem wp_rows0 (R : Ro P t e k by_ f) {ops : Array Oper} {rest : List Oper} {o : Oper} {a : Act} {Q : Exit → Act → World → Prop} (hgd : o.guard = none) (s x : Operand)
    (ho : o.op = .call { callee := .builtin .append, args := #[s, x], argTypes := #[t, t] }) (n : Nat) (hs : a.eval s = .slice A n c) (hn : l.length = n) (hown : Ow e k f w B A c l)
    (M : List β) (A' : Option Addr) (m c' : Nat) (hx : a.eval x = .slice A' m c') (hm : M.length = m) (hnil : A' = none → m = 0 ∧ c' = 0) (hR : Rw k f w A' M)
    (hlen : n + m ≤ 1099511627776) (hbase : B ≤ w.heap.size) (s' : Nat) (hsum : n + m = s')
    (h : ∀ A2 c2 w', Ow e k f w' B A2 c2 (l ++ M) → w.grownBy w' (Value.slice A n c).ownBlock → Below B w w' → wpList P ops Q rest (a.put o.dst (.slice A2 s' c2)) w') : wpList P ops Q (o :: rest) a w :=
  wpList_plain hgd fun K hK => op_rows R s x ho n hs hn hown M A' m c' hx hm hnil hR hlen hbase s' hsum (fun A2 c2 w' k1 k2 k3 => hK _ _ (h A2 c2 w' k1 k2 k3))
/-- An empty row of its own. -/
theorem Ow.empty (w : World) (B : Nat) (hB : B ≤ w.heap.size) : Ow e k f (w.alloc (.cells #[] e)) B (some ⟨w.heap.size, 0, none⟩) 0 ([] : List β) := by
  have := World.ownsRow_lit (base := B) (e := e) (size := k) w #[] 0 hB (by unfold maxLen; omega) (by simp)
  exact this
end

end Go.Proofs.YtinbegnojfpeiaaDoor
