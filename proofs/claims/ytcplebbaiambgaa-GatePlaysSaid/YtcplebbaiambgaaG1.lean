/- Base, Hmf, Numb, RdrS, Parse, DigMath, OrdMath, FoldM, ParMath, SynM, Region, Syn1, Sidx, Syn3, Word, Arr: texts of this seat, one behind the other. -/
import Derived.WalkKit
import Derived.WalkSpells
import Derived.WalkLawsBesides
import Derived.Lib.Hide
import Derived.Handy
import Derived.Laws.BytesArg
import Derived.Laws.EntriesVeiled
import Derived.Test.YtcplebbaiambgaaRows
import Derived.BigQuiet
import Derived.Deep.QuietTactic
import Derived.Lib.Bytealg
import Derived.Deep.RegionHeld3
import Derived.Laws.Rows
import Derived.Laws.Tables
import Derived.Laws.CopyOwn
/- Words for memory that all texts of this seat use: a block that is known whole, bytes that a slice reads as. Nothing of the program is named here. -/
namespace Go.Proofs.Ytcplebbaiambgaa
set_option linter.unusedVariables false
set_option maxRecDepth 100000
set_option linter.unusedSimpArgs false
open Go.RowKit

/-- One byte as a value. -/
abbrev u8 (c : UInt8) : Value := .int .u8 (c.toNat : Int)

/-- Block g is the cells cs of type t, none of them frozen. -/
def Bk (w : World) (g : Nat) (t : TypeId) (cs : Array Value) : Prop := w.heap[g]? = some (.cells cs t (0, 0))

theorem Bk.lt {w : World} {g : Nat} {t : TypeId} {cs : Array Value} (h : Bk w g t cs) : g < w.heap.size := lt_of_block h
theorem Bk.cell {w : World} {g : Nat} {t : TypeId} {cs : Array Value} (h : Bk w g t cs) (i : Nat) : w.cell? ⟨g, i, none⟩ = cs[i]? := cell_of_row w g i cs t (0, 0) h
theorem Bk.frozen {w : World} {g : Nat} {t : TypeId} {cs : Array Value} (h : Bk w g t cs) (i : Nat) : w.frozen? ⟨g, i, none⟩ = false := frozen_of_row w g i cs t h
theorem Bk.new (w : World) (t : TypeId) (cs : Array Value) : Bk (w.alloc (.cells cs t)) w.heap.size t cs := heap_alloc_new w _
theorem Bk.here {w : World} {t : TypeId} {cs : Array Value} {n : Nat} (h : n = w.heap.size) : Bk (w.alloc (.cells cs t)) n t cs := by subst h; exact Bk.new w t cs
theorem Bk.drewN {w : World} {g : Nat} {t : TypeId} {cs : Array Value} (h : Bk w g t cs) (n : Nat) : Bk (w.drewN n) g t cs := h
theorem Bk.drew {w : World} {g : Nat} {t : TypeId} {cs : Array Value} (h : Bk w g t cs) : Bk w.drew g t cs := h
theorem Bk.alloc {w : World} {g : Nat} {t : TypeId} {cs : Array Value} (h : Bk w g t cs) (o : Obj) : Bk (w.alloc o) g t cs := (Below.heap_alloc w o g h.lt).trans h
theorem Bk.set {w : World} {g : Nat} {t : TypeId} {cs : Array Value} (h : Bk w g t cs) (i : Nat) (u : Value) : Bk (w.setCell ⟨g, i, none⟩ u) g t (cs.setIfInBounds i u) :=
  heap_setCell_same w g i cs t u h
theorem Bk.far {w : World} {g : Nat} {t : TypeId} {cs : Array Value} (h : Bk w g t cs) {p : Addr} (hp : g ≠ p.block) (u : Value) : Bk (w.setCell p u) g t cs := (heap_setCell_other w p g u hp).trans h
theorem Bk.below {w w' : World} {B g : Nat} {t : TypeId} {cs : Array Value} (h : Bk w g t cs) (hb : Below B w w') (hg : g < B) : Bk w' g t cs := (hb.block g hg).trans h

/-- make([]byte, n): the world behind it written out. -/
theorem mk_bytes {P : Program} (w : World) (t e : TypeId) (ht : P.underlying t = some (.slice e)) (hi : (P.info? e).map (fun i => (i.zero, i.size, i.bytes)) = some (some (.int .u8 0), 1, 1)) (n : Nat) (hn : n ≤ 140737488355328) (cs : Array Value) (hcs : cs = Array.replicate n (.int .u8 0)) (kl kc : IntKind := .i64) :
    (Instr.makeSlice t (.int kl (n : Int)) (.int kc (n : Int))).run P w = .ok (.slice (some ⟨w.heap.size, 0, none⟩) n n) (w.alloc (.cells cs e)) := by
  obtain ⟨i, hi1, hz, hs, hb⟩ := info_parts hi
  have h := run_make (P := P) w t e i (.int .u8 0) ht hi1 hz kl kc n n (by omega) (by omega) (by rw [hb]; omega) (by omega)
  rw [h]
  have e1 : madeCells #[Value.int .u8 0] n = cs := by
    rw [hcs]; apply Array.ext'; rw [toList_madeCells_one]; simp
  simp [hs, Value.cells, e1]

/-- Bytes as cells. -/
def bcells (l : List UInt8) : Array Value := (l.map u8).toArray
theorem bcells_size (l : List UInt8) : (bcells l).size = l.length := by simp [bcells]
theorem bcells_at (l : List UInt8) (i : Nat) (h : i < l.length) : (bcells l)[i]? = some (.int .u8 ((l[i]).toNat : Int)) := by simp [bcells, h]

/-- The slice at A reads as the bytes l, and lies below block B. -/
def Rb (w : World) (B : Nat) (A : Option Addr) (l : List UInt8) : Prop :=
  l = [] ∨ ∃ b o, A = some ⟨b, o, none⟩ ∧ b < B ∧ ∀ i, (h : i < l.length) → w.cell? ⟨b, o + i, none⟩ = some (.int .u8 ((l[i]).toNat : Int))

theorem Rb.nil (w : World) (B : Nat) (A : Option Addr) : Rb w B A [] := .inl rfl
theorem Rb.below {w w' : World} {B B' : Nat} {A : Option Addr} {l : List UInt8} (h : Rb w B A l) (hb : Below B' w w') (hB : B ≤ B') : Rb w' B A l := by
  rcases h with h | ⟨b, o, e, hlt, hc⟩
  · exact .inl h
  · exact .inr ⟨b, o, e, hlt, fun i hi => (hb.cell (p := ⟨b, o + i, none⟩) (by show b < B'; omega)).trans (hc i hi)⟩
theorem Rb.more {w : World} {B B' : Nat} {A : Option Addr} {l : List UInt8} (h : Rb w B A l) (hB : B ≤ B') : Rb w B' A l := by
  rcases h with h | ⟨b, o, e, hlt, hc⟩
  · exact .inl h
  · exact .inr ⟨b, o, e, by omega, hc⟩
theorem Rb.bk {w : World} {g : Nat} {t : TypeId} {l : List UInt8} (h : Bk w g t (bcells l)) : Rb w (g + 1) (some ⟨g, 0, none⟩) l :=
  .inr ⟨g, 0, rfl, by omega, fun i hi => by rw [h.cell, Nat.zero_add, bcells_at l i hi]⟩
theorem Rb.new (w : World) (t : TypeId) (l : List UInt8) : Rb (w.alloc (.cells (bcells l) t)) (w.heap.size + 1) (some ⟨w.heap.size, 0, none⟩) l := Rb.bk (Bk.new w t _)

theorem strOfNums_u8 (l : List UInt8) : strOfNums (l.map fun c => (c.toNat : Int)) = ⟨l.toArray⟩ := by
  have h := strOfNums_data (l.map fun c => (c.toNat : Int))
  have e : (strOfNums (l.map fun c => (c.toNat : Int))).data = l.toArray := by
    apply Array.ext'
    rw [h, List.map_map]
    have e0 : ((fun n : Int => UInt8.ofNat n.toNat) ∘ fun c : UInt8 => (c.toNat : Int)) = id := by funext c; simp
    rw [e0, List.map_id]
  cases hs : strOfNums (l.map fun c => (c.toNat : Int)) with
  | mk d => rw [hs] at e; simp at e; rw [e]

/-- string(b). -/
theorem str_of {P : Program} {w : World} {B : Nat} {A : Option Addr} {l : List UInt8} (h : Rb w B A l) (src e dst : TypeId) (hs : P.underlying src = some (.slice e)) (he : P.underlying e = some (.int .u8)) (hd : P.underlying dst = some .string) (n cap : Nat) (hn : l.length = n) :
    (convert src dst (.slice A n cap)).run P w = .ok (.string ⟨l.toArray⟩) w := by
  subst hn
  by_cases h0 : l = []
  · subst h0
    cases A with
    | none => exact run_convert_bytes_nil w src e hs he 0 cap dst hd
    | some a =>
      rw [run_convert_bytes_string w src dst e _ _ _ hs he hd]
      have hl := run_loadCells_list (P := P) w a [] (fun j v hj => by simp at hj)
      exact (run_bytesToString (P := P) w a 0 cap [] (by simpa using hl)).trans rfl
  · rcases h with h | ⟨b, o, rfl, _, hc⟩
    · exact absurd h h0
    · have := run_convert_bytes_arg (P := P) w src e hs he b o l.length cap (l.map fun c => (c.toNat : Int)) (by simp) (fun i hi => by
        rw [hc i hi]; simp [List.getD, hi]) dst hd
      rw [this, strOfNums_u8]

end Go.Proofs.Ytcplebbaiambgaa

/- A function value is made. Nothing of the program is named here. -/
namespace Go.Proofs.Ytcplebbaiambgaa
set_option linter.unusedVariables false
set_option maxRecDepth 100000
set_option linter.unusedSimpArgs false
open Go.RowKit

theorem hmf {P : Program} : ∀ (fn : Fn) (first cap : Array Value) (w : World), (Instr.makeFunc fn first cap).run P w = .ok (.func fn first cap) w := fun _ _ _ _ => rfl

end Go.Proofs.Ytcplebbaiambgaa

/- num.number over whatever tells its digits. -/
namespace Go.Proofs.Ytcplebbaiambgaa
set_option linter.unusedVariables false
set_option maxRecDepth 100000
set_option linter.unusedSimpArgs false
open Go.RowKit

/-- What number reckons of digits that are told: of each the digit, whether it is the last one, whether it is one at all. -/
def numS (b : Nat) (st : Nat → Nat × Bool × Bool) : Nat → Nat → Nat → Option (Nat × Nat)
  | 0, _, _ => none
  | f + 1, k, n =>
    let d := st k
    if d.2.2 = false then none
    else if 1099511627776 < n * b + d.1 ∨ (n * b + d.1 = 0 ∧ d.2.1 = false) then none
    else if d.2.1 = true then some (n * b + d.1, k + 1)
    else numS b st f (k + 1) (n * b + d.1)

/-- How number returns it. -/
def numE : Option (Nat × Nat) → Ending
  | some (n, k) => .returned (.tuple #[.int .i64 n, .int .i64 k, .bool true])
  | none => .returned (.tuple #[.int .i64 0, .int .i64 0, .bool false])

/-- A call of a function with a body goes into it. -/
theorem goes_in {P : Program} {f : FuncId} {fn : Func} {c : Code} (h1 : P.funcs[f]? = some fn) (h2 : (fn.name == "runtime.NumGoroutine") = false) (h3 : fn.body = some c) (args : Array Value) (w : World) :
    (callFunc f args).run P w = .ok (.enter f args) w := by
  have hn : fn.name ≠ "runtime.NumGoroutine" := by simpa using h2
  simp [callFunc, h1, hn, h3, mark]

end Go.Proofs.Ytcplebbaiambgaa

/- num.reader over a text: what it makes, and what each call of that tells. -/
namespace Go.Proofs.Ytcplebbaiambgaa
set_option linter.unusedVariables false
set_option maxRecDepth 100000
set_option linter.unusedSimpArgs false
open Go.RowKit

/-- The same over a text. -/
structure RdS (w : World) (g : Nat) (s : ByteArray) (k : Nat) : Prop where
  pos : Bk w (g + 1) 3 #[.int .i64 k]
  from_ : Bk w g 9 #[.string s]
  size : s.size ≤ 140737488355328
  le : k ≤ s.size

theorem RdS.start {w : World} {s : ByteArray} (hl : s.size ≤ 140737488355328) :
    RdS ((w.alloc (.cells #[.string s] 9)).alloc (.cells #[.int .i64 0] 3)) w.heap.size s 0 := by
  have b1 : Bk (w.alloc (.cells #[.string s] 9)) w.heap.size 9 _ := Bk.new w _ _
  have b2 : Bk ((w.alloc (.cells #[.string s] 9)).alloc (.cells #[.int .i64 0] 3)) (w.heap.size + 1) 3 #[.int .i64 0] := by
    have := Bk.new (w.alloc (.cells #[.string s] 9)) 3 #[.int .i64 0]
    simpa using this
  exact ⟨b2, b1.alloc _, hl, by omega⟩

theorem RdS.step {w : World} {g k : Nat} {s : ByteArray} (h : RdS w g s k) (hk : k < s.size) : RdS (w.setCell ⟨g + 1, 0, none⟩ (.int .i64 ((k + 1 : Nat) : Int))) g s (k + 1) :=
  ⟨h.pos.set 0 _, h.from_.far (by show g ≠ g + 1; omega) _, h.size, by omega⟩

theorem RdS.below {w w' : World} {g k B : Nat} {s : ByteArray} (h : RdS w g s k) (hb : Below B w w') (hB : g + 2 ≤ B) : RdS w' g s k :=
  ⟨h.pos.below hb (by omega), h.from_.below hb (by omega), h.size, h.le⟩

end Go.Proofs.Ytcplebbaiambgaa

/- num.Parse: its contract. -/
namespace Go.Proofs.Ytcplebbaiambgaa
set_option linter.unusedVariables false
set_option maxRecDepth 100000
set_option linter.unusedSimpArgs false
open Go.RowKit

def stP (s : ByteArray) (k : Nat) : Nat × Bool × Bool := if h : k < s.size then ((s[k]).toNat - 48, decide (k + 1 = s.size), decide (48 ≤ (s[k]).toNat ∧ (s[k]).toNat ≤ 57)) else (0, true, false)
/-- The number of which a text is the decimals. -/
def parseS (s : ByteArray) : Option (Nat × Nat) := numS 10 (stP s) (s.size + 1) 0 0

theorem parse1_fin {w' : World} {g k v S : Nat} {P Q : Prop} (b1 : Bool) (hb : b1 = decide (48 ≤ v ∧ v ≤ 57)) (h : P) (h' : Q) :
    ∃ di lb, Ending.returned (.tuple #[.int .i64 ((v : Int) - 48), .bool ((S : Int) - (k : Int) - 1 == 0), .bool b1]) = Ending.returned (.tuple #[.int .i64 di, .bool lb, .bool (decide (48 ≤ v ∧ v ≤ 57))]) ∧
      (decide (48 ≤ v ∧ v ≤ 57) = true → di = ((v - 48 : Nat) : Int) ∧ lb = decide (k + 1 = S) ∧ P) ∧ Q :=
  ⟨_, _, by rw [hb], (fun h0 => ⟨(by have : 48 ≤ v ∧ v ≤ 57 := (by simpa using h0); omega), (by rw [Bool.eq_iff_iff]; simp; omega), h⟩), h'⟩

/-- How Parse returns it. -/
def parE : Option (Nat × Nat) → Ending
  | some (n, _) => .returned (.tuple #[.int .i64 n, .bool true])
  | none => .returned (.tuple #[.int .i64 0, .bool false])

end Go.Proofs.Ytcplebbaiambgaa

/- The digits of a number, as lists: plain mathematics. -/
namespace Go.Proofs.Ytcplebbaiambgaa
set_option linter.unusedVariables false
set_option maxRecDepth 100000
set_option linter.unusedSimpArgs false

/-- The cells of the row of L digits, of which the last k are told. -/
def dcells (b n L k : Nat) : Array Value := ((List.range L).map fun j => Value.int .u8 (if L ≤ j + k then ((n / b ^ (L - 1 - j) % b : Nat) : Int) else 0)).toArray

theorem dcells_none (b n L : Nat) : dcells b n L 0 = Array.replicate L (.int .u8 0) := by
  apply Array.ext
  · simp [dcells]
  · intro i h1 h2
    have : i < L := by simpa [dcells] using h1
    simp [dcells]; omega

theorem dcells_size (b n L k : Nat) : (dcells b n L k).size = L := by simp [dcells]

theorem dcells_at (b n L k i : Nat) (h : i < L) : (dcells b n L k)[i]? = some (.int .u8 (if L ≤ i + k then ((n / b ^ (L - 1 - i) % b : Nat) : Int) else 0)) := by
  simp [dcells, h]

theorem dcells_set (b n L k : Nat) (h : k < L) : (dcells b n L k).setIfInBounds (L - 1 - k) (.int .u8 ((n / b ^ k % b : Nat) : Int)) = dcells b n L (k + 1) := by
  apply Array.ext
  · simp [dcells]
  · intro i h1 h2
    have hi : i < L := by simpa [dcells] using h2
    rw [Array.getElem_setIfInBounds (by simpa [dcells] using hi)]
    by_cases he : L - 1 - k = i
    · subst he
      have e1 : L - 1 - (L - 1 - k) = k := by omega
      have e2 : L ≤ L - 1 - k + (k + 1) := by omega
      simp [dcells, e1, e2]
    · rw [if_neg he]
      have : (L ≤ i + k) ↔ (L ≤ i + (k + 1)) := by omega
      simp [dcells, this]

/-- The digits of n of base b, the highest first. -/
def dg (b n : Nat) : List Nat := if h : b < 2 ∨ n < b then [n] else dg b (n / b) ++ [n % b]
termination_by n
decreasing_by
  have : ¬ (b < 2 ∨ n < b) := h
  exact Nat.div_lt_self (by omega) (by omega)

/-- A number below b^L, and not below b^(L-1) but for L = 1, has L digits, each what division tells. -/
theorem dg_eq (b : Nat) (hb : 2 ≤ b) : ∀ (L n : Nat), 1 ≤ L → n < b ^ L → (L = 1 ∨ b ^ (L - 1) ≤ n) → dg b n = (List.range L).map fun j => n / b ^ (L - 1 - j) % b := by
  intro L
  induction L with
  | zero => intro n h; omega
  | succ L ih =>
    intro n _ hlt hge
    rw [dg]
    by_cases hL : L = 0
    · subst hL
      have : n < b := by simpa using hlt
      simp [this, Nat.mod_eq_of_lt this]
    · have hge' : b ^ L ≤ n := by rcases hge with h | h; omega; simpa using h
      have hbn : b ≤ n := Nat.le_trans (by calc b = b ^ 1 := by simp
                                            _ ≤ b ^ L := Nat.pow_le_pow_right (by omega) (by omega)) hge'
      have hn : ¬ (b < 2 ∨ n < b) := by omega
      rw [dif_neg hn, ih (n / b) (by omega) (by rw [Nat.div_lt_iff_lt_mul (by omega)]; rw [Nat.pow_succ] at hlt; exact hlt)]
      · rw [List.range_succ, List.map_append]
        congr 1
        · apply List.map_congr_left
          intro j hj
          have hj' : j < L := by simpa using hj
          rw [Nat.div_div_eq_div_mul, ← Nat.pow_succ']
          have : L - 1 - j + 1 = L + 1 - 1 - j := by omega
          rw [Nat.succ_eq_add_one, this]
        · simp
      · by_cases h1 : L = 1
        · exact .inl h1
        · refine .inr ?_
          rw [Nat.le_div_iff_mul_le (by omega), ← Nat.pow_succ]
          have : (L - 1).succ = L := by omega
          rw [this]; exact hge'

theorem dg_lt (b : Nat) (hb : 2 ≤ b) : ∀ (n : Nat), ∀ d ∈ dg b n, d < b := by
  intro n
  induction n using Nat.strongRecOn with
  | ind n ih =>
    rw [dg]
    by_cases h : b < 2 ∨ n < b
    · rw [dif_pos h]; intro d hd; simp at hd; omega
    · rw [dif_neg h]
      intro d hd
      rw [List.mem_append] at hd
      rcases hd with hd | hd
      · exact ih (n / b) (Nat.div_lt_self (by omega) (by omega)) d hd
      · simp at hd; rw [hd]; exact Nat.mod_lt _ (by omega)

theorem dg_pos (b n : Nat) : 0 < (dg b n).length := by
  rw [dg]; split <;> simp


/-- A number's bytes. -/
def putB (n : Nat) : List UInt8 := (if n < 128 then [] else (dg 128 (n / 128)).map fun d => UInt8.ofNat (d + 128)) ++ [UInt8.ofNat (n % 128)]
/-- A number's decimals. -/
def decB (n : Nat) : List UInt8 := (dg 10 n).map fun d => UInt8.ofNat (d + 48)

/-- The cells of which the first k are marked. -/
def pcells (a n b L k : Nat) : Array Value := ((List.range L).map fun j => Value.int .u8 (if j < k then ((n / b ^ (L - 1 - j) % b + a : Nat) : Int) else ((n / b ^ (L - 1 - j) % b : Nat) : Int))).toArray

theorem pcells_zero (a n b L : Nat) : pcells a n b L 0 = dcells b n L L := by
  unfold pcells dcells
  congr 1
  apply List.map_congr_left
  intro j hj
  rw [if_neg (by omega), if_pos (by omega)]

theorem pcells_at (a n b L k i : Nat) (h : i < L) : (pcells a n b L k)[i]? = some (.int .u8 (if i < k then ((n / b ^ (L - 1 - i) % b + a : Nat) : Int) else ((n / b ^ (L - 1 - i) % b : Nat) : Int))) := by
  simp [pcells, h]

theorem pcells_set (a n b L k : Nat) (h : k < L) : (pcells a n b L k).setIfInBounds k (.int .u8 ((n / b ^ (L - 1 - k) % b + a : Nat) : Int)) = pcells a n b L (k + 1) := by
  apply Array.ext
  · simp [pcells]
  · intro i h1 h2
    have hi : i < L := by simpa [pcells] using h2
    rw [Array.getElem_setIfInBounds (by simpa [pcells] using hi)]
    by_cases he : k = i
    · subst he
      simp [pcells]
    · rw [if_neg he]
      have : (i < k) ↔ (i < k + 1) := by omega
      simp [pcells, this]

theorem u8_ofNat (d : Nat) (h : d < 256) : (UInt8.ofNat d).toNat = d := by simp [UInt8.toNat_ofNat']; omega

theorem pcells_dec (n L : Nat) (h1 : 1 ≤ L) (hlt : n < 10 ^ L) (hge : L = 1 ∨ 10 ^ (L - 1) ≤ n) : pcells 48 n 10 L L = bcells (decB n) := by
  unfold pcells bcells decB
  rw [dg_eq 10 (by omega) L n h1 hlt hge, List.map_map, List.map_map]
  congr 1
  apply List.map_congr_left
  intro j hj
  have hj' : j < L := by simpa using hj
  have := Nat.mod_lt (n / 10 ^ (L - 1 - j)) (by omega : 10 > 0)
  simp only [Function.comp, if_pos hj']
  rw [u8, u8_ofNat _ (by omega)]

theorem pcells_put (n L : Nat) (h1 : 1 ≤ L) (hlt : n < 128 ^ L) (hge : L = 1 ∨ 128 ^ (L - 1) ≤ n) : pcells 128 n 128 L (L - 1) = bcells (putB n) := by
  obtain ⟨K, rfl⟩ : ∃ K, L = K + 1 := ⟨L - 1, by omega⟩
  unfold pcells bcells putB
  rw [List.range_succ, List.map_append, List.map_append]
  congr 1
  congr 1
  · by_cases hn : n < 128
    · have hK : K = 0 := by
        rcases hge with h | h
        · omega
        · rcases Nat.eq_zero_or_pos K with h0 | h0
          · exact h0
          · have : 128 ^ 1 ≤ 128 ^ K := Nat.pow_le_pow_right (by omega) h0
            have h' : 128 ^ K ≤ n := by simpa using h
            omega
      subst hK
      simp [hn]
    · have hK : 1 ≤ K := by
        rcases Nat.eq_zero_or_pos K with h0 | h0
        · subst h0; simp at hlt; omega
        · exact h0
      have hge' : 128 ^ K ≤ n := by rcases hge with h | h; omega; simpa using h
      rw [if_neg hn, dg_eq 128 (by omega) K (n / 128) hK (by rw [Nat.div_lt_iff_lt_mul (by omega)]; rw [Nat.pow_succ] at hlt; exact hlt), List.map_map, List.map_map]
      · apply List.map_congr_left
        intro j hj
        have hj' : j < K := by simpa using hj
        have e : n / 128 / 128 ^ (K - 1 - j) = n / 128 ^ (K - j) := by
          rw [Nat.div_div_eq_div_mul, ← Nat.pow_succ']
          have : (K - 1 - j).succ = K - j := by omega
          rw [this]
        have := Nat.mod_lt (n / 128 ^ (K - j)) (by omega : 128 > 0)
        simp only [Function.comp, Nat.add_sub_cancel, if_pos hj']
        rw [e, u8, u8_ofNat _ (by omega)]
      · by_cases hk1 : K = 1
        · exact .inl hk1
        · refine .inr ?_
          rw [Nat.le_div_iff_mul_le (by omega), ← Nat.pow_succ]
          have : (K - 1).succ = K := by omega
          rw [this]; exact hge'
  · simp
    omega

theorem putB_length (n L : Nat) (h1 : 1 ≤ L) (hlt : n < 128 ^ L) (hge : L = 1 ∨ 128 ^ (L - 1) ≤ n) : (putB n).length = L := by
  have h := congrArg Array.size (pcells_put n L h1 hlt hge)
  rw [bcells_size] at h
  rw [← h]; simp [pcells]
theorem decB_length (n L : Nat) (h1 : 1 ≤ L) (hlt : n < 10 ^ L) (hge : L = 1 ∨ 10 ^ (L - 1) ≤ n) : (decB n).length = L := by
  have h := congrArg Array.size (pcells_dec n L h1 hlt hge)
  rw [bcells_size] at h
  rw [← h]; simp [pcells]

end Go.Proofs.Ytcplebbaiambgaa

/- Greater numbers have greater bytes, or more: plain mathematics. -/
namespace Go.Proofs.Ytcplebbaiambgaa
set_option linter.unusedVariables false
set_option maxRecDepth 100000
set_option linter.unusedSimpArgs false

theorem dg_small {b x : Nat} (h : x < b) : dg b x = [x] := by rw [dg, dif_pos (.inr h)]
theorem dg_big {b x : Nat} (hb : 2 ≤ b) (h : ¬ x < b) : dg b x = dg b (x / b) ++ [x % b] := by
  rw [dg, dif_neg (by omega)]

/-- Fewer, or as many and less. -/
def slx (a b : List UInt8) : Bool := decide (a.length < b.length) || (a.length == b.length && Op.bytesLess a b)

theorem bytesLess_snoc : ∀ (x y : List UInt8) (c d : UInt8), x.length = y.length → Op.bytesLess (x ++ [c]) (y ++ [d]) = (Op.bytesLess x y || (x == y && decide (c < d))) := by
  intro x
  induction x with
  | nil =>
    intro y c d h
    have : y = [] := List.eq_nil_of_length_eq_zero h.symm
    subst this
    simp [Op.bytesLess]
  | cons a x ih =>
    intro y c d h
    cases y with
    | nil => simp at h
    | cons b y =>
      have h' : x.length = y.length := by simpa using h
      simp only [List.cons_append, Op.bytesLess, ih y c d h']
      by_cases hab : a = b
      · subst hab
        simp
      · have e1 : (a == b) = false := by simpa using hab
        simp [e1]

/-- Rows that end in one byte more each. -/
theorem slx_snoc (x y : List UInt8) (c d : UInt8) : slx (x ++ [c]) (y ++ [d]) = (slx x y || (x == y && decide (c < d))) := by
  unfold slx
  rw [List.length_append, List.length_append]
  by_cases h : x.length = y.length
  · rw [bytesLess_snoc x y c d h]
    have h1 : ¬ x.length < y.length := by omega
    simp [h]
  · have h2 : ¬ x = y := fun e => h (by rw [e])
    have e1 : (x == y) = false := by simpa using h2
    have e2 : (x.length == y.length) = false := by simpa using h
    simp [e1, e2]

section
variable (b : Nat) (hb : 2 ≤ b) (f g : Nat → UInt8) (hf : ∀ x y, x < b → y < b → (f x < f y ↔ x < y)) (hg : ∀ x y, x < b → y < b → (g x < g y ↔ x < y))
include hb hf

theorem map_inj : ∀ (x y : Nat), (dg b x).map f = (dg b y).map f → x = y := by
  have inj : ∀ x y, x < b → y < b → f x = f y → x = y := by
    intro x y hx hy h
    rcases Nat.lt_trichotomy x y with h1 | h1 | h1
    · have := (hf x y hx hy).2 h1; rw [h] at this; exact absurd this (by simp)
    · exact h1
    · have := (hf y x hy hx).2 h1; rw [h] at this; exact absurd this (by simp)
  intro x
  induction x using Nat.strongRecOn with
  | ind x ih =>
    intro y h
    by_cases hx : x < b <;> by_cases hy : y < b
    · rw [dg_small hx, dg_small hy] at h
      simp at h
      exact inj x y hx hy h
    · rw [dg_small hx, dg_big hb hy] at h
      have hl := congrArg List.length h
      have hp := dg_pos b (y / b)
      simp only [List.map_append, List.length_append, List.length_map, List.length_cons, List.length_nil] at hl
      omega
    · rw [dg_big hb hx, dg_small hy] at h
      have hl := congrArg List.length h
      have hp := dg_pos b (x / b)
      simp only [List.map_append, List.length_append, List.length_map, List.length_cons, List.length_nil] at hl
      omega
    · rw [dg_big hb hx, dg_big hb hy, List.map_append, List.map_append] at h
      have hl := congrArg List.length h
      simp only [List.length_append, List.length_map, List.length_cons, List.length_nil] at hl
      obtain ⟨h1, h2⟩ := List.append_inj h (by simp; omega)
      have e1 := ih (x / b) (Nat.div_lt_self (by omega) (by omega)) (y / b) h1
      simp at h2
      have e2 := inj (x % b) (y % b) (Nat.mod_lt _ (by omega)) (Nat.mod_lt _ (by omega)) h2
      rw [← Nat.div_add_mod x b, ← Nat.div_add_mod y b, e1, e2]

theorem slx_dg : ∀ (x y : Nat), slx ((dg b x).map f) ((dg b y).map f) = decide (x < y) := by
  intro x
  induction x using Nat.strongRecOn with
  | ind x ih =>
    intro y
    by_cases hx : x < b <;> by_cases hy : y < b
    · rw [dg_small hx, dg_small hy]
      have := hf x y hx hy
      by_cases h : x < y
      · have h1 := this.2 h
        simp [slx, Op.bytesLess, h, h1]
      · have h1 : ¬ f x < f y := fun h' => h (this.1 h')
        simp [slx, Op.bytesLess, h, h1]
    · have hl : (dg b y).length = (dg b (y / b)).length + 1 := by rw [dg_big hb hy]; simp
      have := dg_pos b (y / b)
      have hxl : (dg b x).length = 1 := by rw [dg_small hx]; rfl
      have h : x < y := by omega
      simp [slx, hl, hxl, h, this]
    · have hl : (dg b x).length = (dg b (x / b)).length + 1 := by rw [dg_big hb hx]; simp
      have := dg_pos b (x / b)
      have hyl : (dg b y).length = 1 := by rw [dg_small hy]; rfl
      have h : ¬ x < y := by omega
      have h2 : ¬ (dg b (x / b)).length = 0 := by omega
      simp [slx, hl, hyl, h, h2]
    · have ex := dg_big hb hx
      have ey := dg_big hb hy
      rw [ex, ey, List.map_append, List.map_append]
      show slx (_ ++ [f (x % b)]) (_ ++ [f (y % b)]) = _
      rw [slx_snoc, ih (x / b) (Nat.div_lt_self (by omega) (by omega)) (y / b)]
      have hm := hf (x % b) (y % b) (Nat.mod_lt _ (by omega)) (Nat.mod_lt _ (by omega))
      have dx := Nat.div_add_mod x b
      have dy := Nat.div_add_mod y b
      have mx := Nat.mod_lt x (by omega : b > 0)
      have my := Nat.mod_lt y (by omega : b > 0)
      rw [Bool.eq_iff_iff]
      simp only [Bool.or_eq_true, Bool.and_eq_true, decide_eq_true_eq, beq_iff_eq]
      rw [hm]
      constructor
      · rintro (h | ⟨h, h'⟩)
        · have : b * (x / b) + b ≤ b * (y / b) := by rw [← Nat.mul_succ]; exact Nat.mul_le_mul_left b h
          omega
        · have := map_inj b hb f hf _ _ h
          rw [this] at dx
          omega
      · intro h
        rcases Nat.lt_trichotomy (x / b) (y / b) with h1 | h1 | h1
        · exact .inl h1
        · right
          refine ⟨by rw [h1], ?_⟩
          rw [h1] at dx
          omega
        · have : b * (y / b) + b ≤ b * (x / b) := by rw [← Nat.mul_succ]; exact Nat.mul_le_mul_left b h1
          omega

include hg

/-- Rows whose last digit is told otherwise. -/
theorem slx_mark (x y : Nat) : slx ((if x < b then [] else (dg b (x / b)).map f) ++ [g (x % b)]) ((if y < b then [] else (dg b (y / b)).map f) ++ [g (y % b)]) = decide (x < y) := by
  rw [slx_snoc]
  have hm := hg (x % b) (y % b) (Nat.mod_lt _ (by omega)) (Nat.mod_lt _ (by omega))
  have dx := Nat.div_add_mod x b
  have dy := Nat.div_add_mod y b
  have mx := Nat.mod_lt x (by omega : b > 0)
  have my := Nat.mod_lt y (by omega : b > 0)
  rw [Bool.eq_iff_iff]
  simp only [Bool.or_eq_true, Bool.and_eq_true, decide_eq_true_eq, beq_iff_eq]
  rw [hm]
  by_cases hx : x < b <;> by_cases hy : y < b
  · rw [if_pos hx, if_pos hy, Nat.mod_eq_of_lt hx, Nat.mod_eq_of_lt hy]
    simp [slx, Op.bytesLess]
  · rw [if_pos hx, if_neg hy]
    have := dg_pos b (y / b)
    have h : x < y := by omega
    simp [slx, h, this]
  · rw [if_neg hx, if_pos hy]
    have := dg_pos b (x / b)
    have h : ¬ x < y := by omega
    have h2 : dg b (x / b) ≠ [] := fun e => by rw [e] at this; simp at this
    simp [slx, h, h2, Op.bytesLess]
  · rw [if_neg hx, if_neg hy, slx_dg b hb f hf]
    simp only [decide_eq_true_eq]
    constructor
    · rintro (h | ⟨h, h'⟩)
      · have : b * (x / b) + b ≤ b * (y / b) := by rw [← Nat.mul_succ]; exact Nat.mul_le_mul_left b h
        omega
      · have := map_inj b hb f hf _ _ h
        rw [this] at dx
        omega
    · intro h
      rcases Nat.lt_trichotomy (x / b) (y / b) with h1 | h1 | h1
      · exact .inl h1
      · right
        refine ⟨by rw [h1], ?_⟩
        rw [h1] at dx
        omega
      · have : b * (y / b) + b ≤ b * (x / b) := by rw [← Nat.mul_succ]; exact Nat.mul_le_mul_left b h1
        omega
end

theorem ofNat_lt (a x y : Nat) (hx : x + a < 256) (hy : y + a < 256) : (UInt8.ofNat (x + a) < UInt8.ofNat (y + a)) ↔ x < y := by
  rw [UInt8.lt_iff_toNat_lt, u8_ofNat _ hx, u8_ofNat _ hy]; omega

theorem putB_less (x y : Nat) : slx (putB x) (putB y) = decide (x < y) :=
  slx_mark 128 (by omega) (fun d => UInt8.ofNat (d + 128)) (fun d => UInt8.ofNat d) (fun x y hx hy => ofNat_lt 128 x y (by omega) (by omega)) (fun x y hx hy => ofNat_lt 0 x y (by omega) (by omega)) x y
theorem decB_less (x y : Nat) : slx (decB x) (decB y) = decide (x < y) :=
  slx_dg 10 (by omega) (fun d => UInt8.ofNat (d + 48)) (fun x y hx hy => ofNat_lt 48 x y (by omega) (by omega)) x y
theorem putB_inj (x y : Nat) (h : putB x = putB y) : x = y := by
  have h1 := putB_less x y
  have h2 := putB_less y x
  rw [h] at h1 h2
  rw [h1] at h2
  have := decide_eq_decide.1 h2
  omega
theorem decB_inj (x y : Nat) (h : decB x = decB y) : x = y :=
  map_inj 10 (by omega) (fun d => UInt8.ofNat (d + 48)) (fun x y hx hy => ofNat_lt 48 x y (by omega) (by omega)) x y h

theorem dg_head' (b : Nat) (hb : 2 ≤ b) : ∀ n : Nat, 0 < n → ∃ d r, dg b n = d :: r ∧ d ≠ 0 := by
  intro n
  induction n using Nat.strongRecOn with
  | ind n ih =>
    intro hn
    rw [dg]
    by_cases h : b < 2 ∨ n < b
    · rw [dif_pos h]; exact ⟨n, [], rfl, by omega⟩
    · rw [dif_neg h]
      obtain ⟨d, r, e, hd⟩ := ih (n / b) (Nat.div_lt_self (by omega) (by omega)) (Nat.div_pos (by omega) (by omega))
      exact ⟨d, r ++ [n % b], by rw [e]; rfl, hd⟩

/-- A text of its bytes. -/
def bs (l : List UInt8) : ByteArray := ⟨l.toArray⟩
theorem bs_list (l : List UInt8) : (bs l).toList = l := by rw [ByteArray.toList_eq]; simp [bs]
theorem bs_size (l : List UInt8) : (bs l).size = l.length := by simp [bs, ByteArray.size]
theorem bs_inj {a b : List UInt8} (h : bs a = bs b) : a = b := by rw [← bs_list a, ← bs_list b, h]
theorem bs_of (s : ByteArray) : bs s.data.toList = s := by cases s; simp [bs]
theorem bs_data (l : List UInt8) : (bs l).data.toList = l := by simp [bs]

theorem dg_len (b : Nat) (hb : 2 ≤ b) : ∀ n, (dg b n).length ≤ n + 1 := by
  intro n
  induction n using Nat.strongRecOn with
  | ind n ih =>
    by_cases h : n < b
    · rw [dg_small h]; simp
    · have := ih (n / b) (Nat.div_lt_self (by omega) (by omega))
      have h2 : n / b < n := Nat.div_lt_self (by omega) (by omega)
      rw [dg_big hb h, List.length_append]; simp; omega
theorem decB_len (x : Nat) (hx : x ≤ 1099511627776) : (decB x).length ≤ 140737488355328 := by
  have := dg_len 10 (by omega) x
  unfold decB; rw [List.length_map]; omega
theorem putB_len (x : Nat) (hx : x ≤ 1099511627776) : (putB x).length ≤ 140737488355328 := by
  have := dg_len 128 (by omega) (x / 128)
  unfold putB
  split <;> simp <;> omega
end Go.Proofs.Ytcplebbaiambgaa

/- Numbers of their digits, the highest first: plain mathematics. -/
namespace Go.Proofs.Ytcplebbaiambgaa
set_option linter.unusedVariables false
set_option maxRecDepth 100000
set_option linter.unusedSimpArgs false

theorem numS_no {b : Nat} {st : Nat → Nat × Bool × Bool} {f k n : Nat} (h : (st k).2.2 = false) : numS b st (f + 1) k n = none := by
  simp [numS, h]
theorem numS_last {b : Nat} {st : Nat → Nat × Bool × Bool} {f k n d : Nat} (h : st k = (d, true, true)) (hm : n * b + d ≤ 1099511627776) : numS b st (f + 1) k n = some (n * b + d, k + 1) := by
  simp [numS, h]; omega
theorem numS_more {b : Nat} {st : Nat → Nat × Bool × Bool} {f k n d : Nat} (h : st k = (d, false, true)) (hm : n * b + d ≤ 1099511627776) (h0 : n * b + d ≠ 0) : numS b st (f + 1) k n = numS b st f (k + 1) (n * b + d) := by
  simp only [numS, h]
  rw [if_neg (by simp), if_neg (by rintro (h1 | ⟨h1, _⟩); omega; exact h0 h1), if_neg (by simp)]

theorem numS_big' {b : Nat} {st : Nat → Nat × Bool × Bool} {f k n d : Nat} {last : Bool} (h : st k = (d, last, true)) (hm : 1099511627776 < n * b + d) : numS b st (f + 1) k n = none := by
  simp only [numS, h]
  rw [if_neg (by simp), if_pos (.inl hm)]
theorem numS_zero' {b : Nat} {st : Nat → Nat × Bool × Bool} {f k n d : Nat} (h : st k = (d, false, true)) (hm : n * b + d = 0) : numS b st (f + 1) k n = none := by
  simp [numS, h, hm]

/-- What digits come to. -/
def fold (b n : Nat) (ds : List Nat) : Nat := ds.foldl (fun n d => n * b + d) n
theorem fold_le (b : Nat) (hb : 1 ≤ b) : ∀ (ds : List Nat) (n : Nat), n ≤ fold b n ds := by
  intro ds
  induction ds with
  | nil => intro n; exact Nat.le_refl _
  | cons d ds ih =>
    intro n
    have h1 := ih (n * b + d)
    have h2 : n ≤ n * b := Nat.le_mul_of_pos_right n hb
    exact Nat.le_trans (by omega) h1
theorem fold_snoc (b n : Nat) (ds : List Nat) (d : Nat) : fold b n (ds ++ [d]) = fold b n ds * b + d := by simp [fold]
theorem fold_dg (b : Nat) (hb : 2 ≤ b) : ∀ n, fold b 0 (dg b n) = n := by
  intro n
  induction n using Nat.strongRecOn with
  | ind n ih =>
    by_cases h : n < b
    · rw [dg_small h]; simp [fold]
    · rw [dg_big hb h, fold_snoc, ih (n / b) (Nat.div_lt_self (by omega) (by omega))]
      have := Nat.div_add_mod n b
      rw [Nat.mul_comm]; omega

theorem numS_front {b : Nat} (hb : 1 ≤ b) {st : Nat → Nat × Bool × Bool} : ∀ (ds : List Nat) (f k n : Nat), (∀ i, (h : i < ds.length) → st (k + i) = (ds[i], false, true)) → fold b n ds ≤ 1099511627776 →
    (∀ d r, ds = d :: r → n * b + d ≠ 0) → numS b st (f + ds.length) k n = numS b st f (k + ds.length) (fold b n ds) := by
  intro ds
  induction ds with
  | nil => intro f k n _ _ _; rfl
  | cons d ds ih =>
    intro f k n hst hle h0
    have hs0 := hst 0 (by simp)
    have hle2 : n * b + d ≤ 1099511627776 := Nat.le_trans (fold_le b hb ds _) hle
    have hne := h0 d ds rfl
    have e : f + (d :: ds).length = (f + ds.length) + 1 := by simp; omega
    rw [e, numS_more (by simpa using hs0) hle2 hne, ih f (k + 1) (n * b + d)]
    · have e2 : k + 1 + ds.length = k + (d :: ds).length := by simp; omega
      rw [e2]; rfl
    · intro i hi
      have := hst (i + 1) (by simp; omega)
      have e3 : k + (i + 1) = k + 1 + i := by omega
      rw [e3] at this
      simpa using this
    · exact hle
    · intro d' r _
      have : 1 * b ≤ (n * b + d) * b := Nat.mul_le_mul_right b (by omega)
      omega

theorem fold_pos {b n d : Nat} {r : List Nat} (e : dg b n = d :: r) (hb : 2 ≤ b) (hn : 0 < n) : d ≠ 0 := by
  obtain ⟨d', r', e', h⟩ := dg_head' b hb n hn
  rw [e] at e'
  injection e' with e1 _
  rw [e1]; exact h

def hiD (b n : Nat) : List Nat := if n < b then [] else dg b (n / b)
theorem hiD_lt (b : Nat) (hb : 2 ≤ b) (n d : Nat) (h : d ∈ hiD b n) : d < b := by
  unfold hiD at h
  by_cases hn : n < b
  · simp [hn] at h
  · rw [if_neg hn] at h
    exact dg_lt b hb _ d h
theorem hiD_fold (b : Nat) (hb : 2 ≤ b) (n : Nat) : fold b 0 (hiD b n) = n / b := by
  unfold hiD
  by_cases hn : n < b
  · simp [hn, fold, Nat.div_eq_of_lt hn]
  · rw [if_neg hn, fold_dg b hb]
theorem hiD_head (b : Nat) (hb : 2 ≤ b) (n d : Nat) (r : List Nat) (e : hiD b n = d :: r) : d ≠ 0 := by
  unfold hiD at e
  by_cases hn : n < b
  · simp [hn] at e
  · rw [if_neg hn] at e
    exact fold_pos e hb (Nat.div_pos (by omega) (by omega))

theorem dg_step (b n d : Nat) (hb : 2 ≤ b) (hd : d < b) (hn : 1 ≤ n) : dg b (n * b + d) = dg b n ++ [d] := by
  have h1 : 1 * b ≤ n * b := Nat.mul_le_mul_right b hn
  have h2 : (n * b + d) / b = n := by rw [Nat.mul_comm, Nat.mul_add_div (by omega), Nat.div_eq_of_lt hd]; omega
  have h3 : (n * b + d) % b = d := by rw [Nat.mul_comm, Nat.mul_add_mod]; exact Nat.mod_eq_of_lt hd
  rw [dg_big hb (by omega), h2, h3]

theorem ofNat_toNat_eq (c : UInt8) (d : Nat) (h : c.toNat = d) : c = UInt8.ofNat d := by rw [← h]; simp

end Go.Proofs.Ytcplebbaiambgaa

/- There and back, of decimals: plain mathematics. -/
namespace Go.Proofs.Ytcplebbaiambgaa
set_option linter.unusedVariables false
set_option maxRecDepth 100000
set_option linter.unusedSimpArgs false

/-! ### Decimals -/

theorem stP_at (s : ByteArray) (k : Nat) (h : k < s.size) : stP s k = ((s[k]).toNat - 48, decide (k + 1 = s.size), decide (48 ≤ (s[k]).toNat ∧ (s[k]).toNat ≤ 57)) := by simp [stP, h]
theorem stP_end (s : ByteArray) (k : Nat) (h : ¬ k < s.size) : stP s k = (0, true, false) := by simp [stP, h]

theorem bs_at (l : List UInt8) (k : Nat) (h : k < (bs l).size) (h' : k < l.length) : (bs l)[k] = l[k] := by
  show (bs l).data[k] = _
  simp [bs]

theorem decB_eq (n : Nat) : decB n = (hiD 10 n).map (fun d => UInt8.ofNat (d + 48)) ++ [UInt8.ofNat (n % 10 + 48)] := by
  unfold decB hiD
  by_cases h : n < 10
  · rw [dg_small h, if_pos h, Nat.mod_eq_of_lt h]; rfl
  · rw [dg_big (by omega) h, if_neg h, List.map_append]; rfl

theorem parse_back (n : Nat) (hn : n ≤ 1099511627776) : ∃ k, parseS (bs (decB n)) = some (n, k) := by
  have hm := Nat.mod_lt n (by omega : 10 > 0)
  have hlen : (decB n).length = (hiD 10 n).length + 1 := by rw [decB_eq]; simp
  have hsz : (bs (decB n)).size = (hiD 10 n).length + 1 := by rw [bs_size, hlen]
  have hf : fold 10 0 (hiD 10 n) = n / 10 := hiD_fold 10 (by omega) n
  unfold parseS
  have e : (bs (decB n)).size + 1 = 2 + (hiD 10 n).length := by rw [hsz]; omega
  refine ⟨(hiD 10 n).length + 1, ?_⟩
  rw [e, numS_front (by omega) (hiD 10 n) _ 0 0 ?_ (by rw [hf]; omega) (fun d r e => by have := hiD_head 10 (by omega) n d r e; omega), hf, Nat.zero_add]
  · have hk : (hiD 10 n).length < (bs (decB n)).size := by omega
    have hst : stP (bs (decB n)) (hiD 10 n).length = (n % 10, true, true) := by
      rw [stP_at _ _ hk]
      have e2 : (bs (decB n))[(hiD 10 n).length] = UInt8.ofNat (n % 10 + 48) := by
        refine (bs_at _ _ hk (by omega)).trans ?_
        have := decB_eq n
        simp only [this]
        rw [List.getElem_append_right (by simp)]
        simp
      rw [e2, u8_ofNat _ (by omega), hsz]
      have e3 : n % 10 + 48 - 48 = n % 10 := by omega
      rw [e3, decide_eq_true rfl, decide_eq_true ⟨by omega, by omega⟩]
    have hdm := Nat.div_add_mod n 10
    rw [numS_last hst (by omega)]
    congr 2
    omega
  · intro i hi
    have hd := hiD_lt 10 (by omega) n _ (List.getElem_mem hi)
    have hi2 : i < (bs (decB n)).size := by omega
    rw [Nat.zero_add, stP_at _ i hi2]
    have e2 : (bs (decB n))[i] = UInt8.ofNat ((hiD 10 n)[i] + 48) := by
      refine (bs_at _ _ hi2 (by omega)).trans ?_
      have := decB_eq n
      simp only [this]
      rw [List.getElem_append_left (by simpa using hi)]
      simp
    rw [e2, u8_ofNat _ (by omega), hsz]
    have e3 : (hiD 10 n)[i] + 48 - 48 = (hiD 10 n)[i] := by omega
    rw [e3, decide_eq_false (by omega), decide_eq_true ⟨by omega, by omega⟩]

theorem par_inv (s : ByteArray) : ∀ (f k n r m : Nat), ((k = 0 ∧ n = 0) ∨ (1 ≤ n ∧ k ≤ s.size ∧ s.data.toList.take k = decB n)) → numS 10 (stP s) f k n = some (r, m) →
    r ≤ 1099511627776 ∧ s.data.toList = decB r := by
  intro f
  induction f with
  | zero => intro k n r m _ h; cases h
  | succ f ih =>
    intro k n r m hI h
    by_cases hk : k < s.size
    · have hst := stP_at s k hk
      have hk2 : k < s.data.toList.length := hk
      have ht : s.data.toList.take (k + 1) = s.data.toList.take k ++ [s.data.toList[k]] := List.take_succ_eq_append_getElem hk2
      have hsk : s.data.toList[k] = s[k] := by
        show s.data.toList[k] = s.data[k]
        simp
      rw [hsk] at ht
      generalize hv : (s[k]).toNat = v at hst
      by_cases hdig : 48 ≤ v ∧ v ≤ 57
      · rw [decide_eq_true hdig] at hst
        have hc : s[k] = UInt8.ofNat ((v - 48) + 48) := by rw [ofNat_toNat_eq _ _ hv]; congr 1; omega
        rw [hc] at ht
        by_cases hbig : 1099511627776 < n * 10 + (v - 48) ∨ (n * 10 + (v - 48) = 0 ∧ decide (k + 1 = s.size) = false)
        · simp only [numS, hst] at h
          rw [if_neg (by simp), if_pos hbig] at h
          cases h
        · have hle : n * 10 + (v - 48) ≤ 1099511627776 := by
            rcases Nat.lt_or_ge 1099511627776 (n * 10 + (v - 48)) with h1 | h1
            · exact absurd (.inl h1) hbig
            · exact h1
          have hnew : s.data.toList.take (k + 1) = decB (n * 10 + (v - 48)) := by
            rw [ht]
            rcases hI with ⟨rfl, rfl⟩ | ⟨hn1, _, htk⟩
            · rw [decB, dg_small (by omega)]; simp
            · rw [htk, decB, decB, dg_step 10 n (v - 48) (by omega) (by omega) hn1, List.map_append]; rfl
          by_cases hlast : k + 1 = s.size
          · rw [decide_eq_true hlast] at hst
            rw [numS_last hst hle] at h
            injection h with h
            injection h with h1 h2
            subst h1
            refine ⟨hle, ?_⟩
            rw [← hnew, List.take_of_length_le]
            show s.size ≤ k + 1
            omega
          · rw [decide_eq_false hlast] at hst
            have hne : n * 10 + (v - 48) ≠ 0 := fun h0 => hbig (.inr ⟨h0, decide_eq_false hlast⟩)
            rw [numS_more hst hle hne] at h
            exact ih (k + 1) _ r m (.inr ⟨by omega, by omega, hnew⟩) h
      · rw [decide_eq_false hdig] at hst
        rw [numS_no (by rw [hst])] at h
        cases h
    · rw [numS_no (by rw [stP_end _ _ hk])] at h
      cases h

theorem parse_is (s : ByteArray) (z k : Nat) (h : parseS s = some (z, k)) : z ≤ 1099511627776 ∧ s = bs (decB z) := by
  obtain ⟨h1, h2⟩ := par_inv s _ 0 0 z k (.inl ⟨rfl, rfl⟩) h
  refine ⟨h1, ?_⟩
  rw [← h2]
  cases s; simp [bs]

end Go.Proofs.Ytcplebbaiambgaa

/- Names, addresses, nets: plain mathematics. -/
namespace Go.Proofs.Ytcplebbaiambgaa
set_option linter.unusedVariables false
set_option maxRecDepth 100000
set_option linter.unusedSimpArgs false

/-! ### Texts cut at a mark -/

/-- What stands ahead of a byte, what behind it, whether there is one. -/
def cutL (c : UInt8) : List UInt8 → List UInt8 × List UInt8 × Bool
  | [] => ([], [], false)
  | x :: r => if x = c then ([], r, true) else (x :: (cutL c r).1, (cutL c r).2.1, (cutL c r).2.2)

def piecesL (c : UInt8) : List UInt8 → List (List UInt8)
  | [] => [[]]
  | x :: r => if x = c then [] :: piecesL c r else
    match piecesL c r with
    | [] => [[x]]
    | p :: ps => (x :: p) :: ps

def joinL (c : UInt8) : List (List UInt8) → List UInt8
  | [] => []
  | [p] => p
  | p :: q :: ps => p ++ c :: joinL c (q :: ps)

theorem cutL_join (c : UInt8) : ∀ l, ((cutL c l).2.2 = true → l = (cutL c l).1 ++ c :: (cutL c l).2.1) ∧ ((cutL c l).2.2 = false → l = (cutL c l).1 ∧ (cutL c l).2.1 = [])
  | [] => by simp [cutL]
  | x :: r => by
    obtain ⟨h1, h2⟩ := cutL_join c r
    unfold cutL
    by_cases hx : x = c
    · simp [hx]
    · simp only [if_neg hx]
      refine ⟨fun h => by rw [List.cons_append, ← h1 h], fun h => ⟨by rw [← (h2 h).1], (h2 h).2⟩⟩
theorem cutL_lt (c : UInt8) (l : List UInt8) (h : (cutL c l).2.2 = true) : (cutL c l).2.1.length < l.length := by
  have := congrArg List.length ((cutL_join c l).1 h)
  rw [List.length_append, List.length_cons] at this
  omega
theorem cutL_len (c : UInt8) (l : List UInt8) : (cutL c l).1.length ≤ l.length ∧ (cutL c l).2.1.length ≤ l.length := by
  cases h : (cutL c l).2.2
  · obtain ⟨h1, h2⟩ := (cutL_join c l).2 h
    exact ⟨Nat.le_of_eq (congrArg List.length h1).symm, by rw [h2]; simp⟩
  · have := congrArg List.length ((cutL_join c l).1 h)
    rw [List.length_append, List.length_cons] at this
    omega
theorem cutL_no (c : UInt8) : ∀ l, c ∉ (cutL c l).1
  | [] => by simp [cutL]
  | x :: r => by
    unfold cutL
    by_cases hx : x = c
    · simp [hx]
    · simp only [if_neg hx, List.mem_cons, not_or]
      exact ⟨fun h => hx h.symm, cutL_no c r⟩
theorem cutL_hit (c : UInt8) : ∀ (p r : List UInt8), c ∉ p → cutL c (p ++ c :: r) = (p, r, true)
  | [], r, _ => by simp [cutL]
  | x :: p, r, h => by
    rw [List.mem_cons, not_or] at h
    have hx : ¬ x = c := fun e => h.1 e.symm
    rw [List.cons_append, cutL, if_neg hx, cutL_hit c p r h.2]
theorem cutL_miss (c : UInt8) : ∀ p : List UInt8, c ∉ p → cutL c p = (p, [], false)
  | [], _ => rfl
  | x :: p, h => by
    rw [List.mem_cons, not_or] at h
    have hx : ¬ x = c := fun e => h.1 e.symm
    rw [cutL, if_neg hx, cutL_miss c p h.2]

theorem pieces_cut (c : UInt8) : ∀ l, piecesL c l = (cutL c l).1 :: (if (cutL c l).2.2 = true then piecesL c (cutL c l).2.1 else [])
  | [] => by simp [cutL, piecesL]
  | x :: r => by
    have ih := pieces_cut c r
    rw [cutL, piecesL]
    by_cases hx : x = c
    · simp [hx]
    · simp only [if_neg hx]
      rw [ih]
theorem pieces_join (c : UInt8) : ∀ l, joinL c (piecesL c l) = l
  | [] => rfl
  | x :: r => by
    have ih := pieces_join c r
    unfold piecesL
    by_cases hx : x = c
    · rw [if_pos hx]
      have hp := pieces_cut c r
      rw [hp] at ih ⊢
      rw [joinL, ih, hx]; rfl
    · rw [if_neg hx]
      cases hp : piecesL c r with
      | nil => rw [pieces_cut] at hp; cases hp
      | cons p ps =>
        rw [hp] at ih
        cases ps with
        | nil => show x :: p = _; rw [show p = r from ih]
        | cons q ps => show (x :: p) ++ c :: joinL c (q :: ps) = _; rw [← ih]; rfl
theorem pieces_of (c : UInt8) : ∀ ps : List (List UInt8), ps ≠ [] → (∀ p ∈ ps, c ∉ p) → piecesL c (joinL c ps) = ps
  | [], h, _ => absurd rfl h
  | [p], _, h => by rw [joinL, pieces_cut, cutL_miss c p (h p (by simp))]; simp
  | p :: q :: ps, _, h => by
    rw [joinL, pieces_cut, cutL_hit c p _ (h p (by simp)), if_pos rfl, pieces_of c (q :: ps) (by simp) (fun p' hp' => h p' (List.mem_cons_of_mem _ hp'))]
theorem pieces_small (c : UInt8) (l : List UInt8) : ∀ p ∈ piecesL c l, p.length ≤ l.length := by
  induction hn : l.length using Nat.strongRecOn generalizing l with
  | _ n ih =>
    intro p hp
    rw [pieces_cut] at hp
    rcases List.mem_cons.1 hp with rfl | hp
    · have := (cutL_len c l).1; omega
    · cases hm : (cutL c l).2.2
      · rw [hm] at hp; simp at hp
      · rw [hm, if_pos rfl] at hp
        have := cutL_lt c l hm
        have := ih _ (by omega) (cutL c l).2.1 rfl p hp
        omega

theorem pieces_len (c : UInt8) : ∀ l, (piecesL c l).length ≤ l.length + 1
  | [] => by simp [piecesL]
  | x :: r => by
    have ih := pieces_len c r
    have hc := pieces_cut c r
    rw [piecesL]
    by_cases hx : x = c
    · rw [if_pos hx, List.length_cons, List.length_cons]; omega
    · rw [if_neg hx, hc]
      rw [hc] at ih
      simp only [List.length_cons] at ih ⊢
      omega

/-- What the library's search makes of it. -/
theorem cutL_index (c : UInt8) : ∀ l : List UInt8, (Go.Lib.indexByte l c = -1 ∧ cutL c l = (l, [], false)) ∨ ∃ i : Nat, Go.Lib.indexByte l c = (i : Int) ∧ i < l.length ∧ cutL c l = (l.take i, l.drop (i + 1), true)
  | [] => .inl ⟨by simp [Go.Lib.indexByte], rfl⟩
  | x :: r => by
    unfold cutL Go.Lib.indexByte
    by_cases hx : x = c
    · exact .inr ⟨0, by simp [hx], by simp, by simp [hx]⟩
    · rcases cutL_index c r with ⟨h1, h2⟩ | ⟨i, h1, h2, h3⟩
      · exact .inl ⟨by simp [hx, h1], by simp [hx, h2]⟩
      · refine .inr ⟨i + 1, ?_, by simp; omega, by simp [hx, h3]⟩
        have e : ((i : Int) == -1) = false := by simp
        simp [hx, h1, e]

/-! ### Numbers up to a greatest one -/

def upToO (top : Nat) (p : ByteArray) : Option Nat := match parseS p with
  | some (n, _) => if n ≤ top then some n else none
  | none => none

theorem upToO_dec (top n : Nat) (h : n ≤ top) (ht : top ≤ 1099511627776) : upToO top (bs (decB n)) = some n := by
  obtain ⟨k, hk⟩ := parse_back n (by omega)
  simp [upToO, hk, h]
theorem upToO_is (top n : Nat) (p : ByteArray) (h : upToO top p = some n) : n ≤ top ∧ p = bs (decB n) := by
  unfold upToO at h
  cases hp : parseS p with
  | none => rw [hp] at h; cases h
  | some x =>
    obtain ⟨m, k⟩ := x
    rw [hp] at h
    simp only at h
    by_cases hm : m ≤ top
    · rw [if_pos hm] at h
      obtain rfl : m = n := by injection h
      exact ⟨hm, (parse_is p m k hp).2⟩
    · rw [if_neg hm] at h; cases h


theorem dec_digit (n : Nat) (c : UInt8) (h : c ∈ decB n) : 48 ≤ c.toNat ∧ c.toNat ≤ 57 := by
  unfold decB at h
  obtain ⟨d, hd, rfl⟩ := List.mem_map.1 h
  have := dg_lt 10 (by omega) n d hd
  rw [u8_ofNat _ (by omega)]; omega
theorem dec_no (n : Nat) (c : UInt8) (h : c.toNat < 48) : c ∉ decB n := fun hc => by have := dec_digit n c hc; omega

/-! ### Addresses -/

def dotsB (a : Nat) : List UInt8 := joinL 46 [decB (a / 16777216 % 256), decB (a / 65536 % 256), decB (a / 256 % 256), decB (a % 256)]

def addrL : List (Option Nat) → Option Nat
  | [some a, some b, some c, some d] => some (((a * 256 + b) * 256 + c) * 256 + d)
  | _ => none
def addrO (s : ByteArray) : Option Nat := addrL ((piecesL 46 s.data.toList).map fun p => upToO 255 (bs p))

theorem dotsB_pieces (a : Nat) : piecesL 46 (dotsB a) = [decB (a / 16777216 % 256), decB (a / 65536 % 256), decB (a / 256 % 256), decB (a % 256)] := by
  refine pieces_of 46 _ (by simp) (fun p hp => ?_)
  simp only [List.mem_cons, List.not_mem_nil, or_false] at hp
  rcases hp with rfl | rfl | rfl | rfl <;> exact dec_no _ _ (by decide)

theorem addr_back (a : Nat) (h : a < 4294967296) : addrO (bs (dotsB a)) = some a := by
  unfold addrO
  rw [bs_data, dotsB_pieces]
  simp only [List.map_cons, List.map_nil]
  rw [upToO_dec 255 _ (by omega) (by omega), upToO_dec 255 _ (by omega) (by omega), upToO_dec 255 _ (by omega) (by omega), upToO_dec 255 _ (by omega) (by omega)]
  simp only [addrL]
  congr 1
  omega

theorem addrL_some {l : List (Option Nat)} {v : Nat} (h : addrL l = some v) : ∃ a b c d, l = [some a, some b, some c, some d] ∧ v = ((a * 256 + b) * 256 + c) * 256 + d := by
  unfold addrL at h
  split at h
  · injection h with h; exact ⟨_, _, _, _, rfl, h.symm⟩
  · cases h

theorem addr_is (s : ByteArray) (v : Nat) (h : addrO s = some v) : v < 4294967296 ∧ s = bs (dotsB v) := by
  obtain ⟨a, b, c, d, hl, hv⟩ := addrL_some h
  have hlen := congrArg List.length hl
  rw [List.length_map] at hlen
  match hp : piecesL 46 s.data.toList, hlen with
  | [p, q, r, t], _ =>
    rw [hp] at hl
    simp only [List.map_cons, List.map_nil, List.cons.injEq, and_true] at hl
    obtain ⟨h1, h2, h3, h4⟩ := hl
    obtain ⟨k1, e1⟩ := upToO_is _ _ _ h1
    obtain ⟨k2, e2⟩ := upToO_is _ _ _ h2
    obtain ⟨k3, e3⟩ := upToO_is _ _ _ h3
    obtain ⟨k4, e4⟩ := upToO_is _ _ _ h4
    refine ⟨by omega, ?_⟩
    have hj := pieces_join 46 s.data.toList
    rw [hp, bs_inj e1, bs_inj e2, bs_inj e3, bs_inj e4] at hj
    rw [← bs_of s, ← hj]
    unfold dotsB
    rw [show v / 16777216 % 256 = a by omega, show v / 65536 % 256 = b by omega, show v / 256 % 256 = c by omega, show v % 256 = d by omega]

/-! ### Nets -/

/-- An address with 0 behind its first bits. -/
def firstN (bits a : Nat) : Nat := a / 2 ^ (32 - bits) * 2 ^ (32 - bits)
def rightB (a : Nat) (bits : Int) : Bool := decide (0 ≤ bits) && decide (bits ≤ 32) && decide (firstN bits.toNat a = a)
def inB (n : Nat) (bits : Int) (a : Nat) : Bool := rightB n bits && decide (firstN bits.toNat a = n)
def slashL (a : Nat) (bits : Int) : List UInt8 := if rightB a bits = true then dotsB a ++ 47 :: decB bits.toNat else []
def netL : List (List UInt8) → Option (Nat × Nat)
  | [x, y] => match addrO (bs x), upToO 32 (bs y) with
    | some a, some b => if rightB a b = true then some (a, b) else none
    | _, _ => none
  | _ => none
def netO (s : ByteArray) : Option (Nat × Nat) := netL (piecesL 47 s.data.toList)

theorem dots_no (a : Nat) : (47 : UInt8) ∉ dotsB a := by
  unfold dotsB
  simp only [joinL, List.mem_append, List.mem_cons, not_or]
  refine ⟨dec_no _ _ (by decide), by decide, dec_no _ _ (by decide), by decide, dec_no _ _ (by decide), by decide, dec_no _ _ (by decide)⟩

theorem net_back (a : Nat) (bits : Int) (ha : a < 4294967296) (h : rightB a bits = true) : netO (bs (slashL a bits)) = some (a, bits.toNat) := by
  have hb : 0 ≤ bits ∧ bits ≤ 32 := by
    unfold rightB at h
    simp only [Bool.and_eq_true, decide_eq_true_eq] at h
    exact h.1
  unfold netO slashL
  rw [if_pos h, bs_data, pieces_cut, cutL_hit 47 _ _ (dots_no a), if_pos rfl]
  simp only
  rw [pieces_cut, cutL_miss 47 _ (dec_no _ _ (by decide))]
  simp only [Bool.false_eq_true, if_false, netL]
  rw [addr_back a ha, upToO_dec 32 _ (by omega) (by omega)]
  simp only
  have e : ((bits.toNat : Nat) : Int) = bits := by omega
  rw [e, if_pos h]

theorem net_is (s : ByteArray) (a b : Nat) (h : netO s = some (a, b)) : a < 4294967296 ∧ b ≤ 32 ∧ rightB a b = true ∧ s = bs (slashL a b) := by
  unfold netO at h
  have hj := pieces_join 47 s.data.toList
  match hp : piecesL 47 s.data.toList, h with
  | [x, y], h =>
    rw [hp] at hj
    simp only [netL] at h
    cases h1 : addrO (bs x) with
    | none => rw [h1] at h; cases h
    | some a' =>
      cases h2 : upToO 32 (bs y) with
      | none => rw [h1, h2] at h; cases h
      | some b' =>
        rw [h1, h2] at h
        simp only at h
        by_cases hr : rightB a' b' = true
        · rw [if_pos hr] at h
          injection h with h
          injection h with e1 e2
          subst e1; subst e2
          obtain ⟨k1, q1⟩ := addr_is _ _ h1
          obtain ⟨k2, q2⟩ := upToO_is _ _ _ h2
          refine ⟨k1, k2, hr, ?_⟩
          rw [← bs_of s, ← hj]
          unfold slashL
          rw [if_pos hr, bs_inj q1, bs_inj q2]; rfl
        · rw [if_neg hr] at h; cases h

/-! ### What the loops keep -/

def ixs : Nat → List (List UInt8) → List (Nat × ByteArray)
  | _, [] => []
  | k, p :: ps => (k, bs p) :: ixs (k + 1) ps
theorem ixs_len : ∀ (ps : List (List UInt8)) (k : Nat), (ixs k ps).length = ps.length
  | [], _ => rfl
  | p :: ps, k => by rw [ixs, List.length_cons, ixs_len ps, List.length_cons]
theorem ixs_append : ∀ (ps qs : List (List UInt8)) (k : Nat), ixs k (ps ++ qs) = ixs k ps ++ ixs (k + ps.length) qs
  | [], qs, k => rfl
  | p :: ps, qs, k => by rw [List.cons_append, ixs, ixs_append ps qs, ixs, List.cons_append, List.length_cons]; congr 3; omega

def okA (x : Nat × ByteArray) : Bool := (upToO 255 x.2).isSome && !decide (x.1 = 4)
def stA (s : Nat × Nat) (x : Nat × ByteArray) : Nat × Nat := ((s.1 * 256 + (upToO 255 x.2).getD 0) % 4294967296, x.1)
def fA (xs : List (Nat × ByteArray)) : Nat × Nat := xs.foldl stA (0, 0)
theorem fA_snoc (xs : List (Nat × ByteArray)) (x : Nat × ByteArray) : fA (xs ++ [x]) = stA (fA xs) x := by simp [fA]

theorem opt_some {o : Option Nat} (h : o.isSome = true) : ∃ n, o = some n := by cases o <;> simp_all

theorem okA_all {ps : List (List UInt8)} {v : Nat} (h : addrL (ps.map fun p => upToO 255 (bs p)) = some v) : ∀ x ∈ ixs 0 ps, okA x = true := by
  obtain ⟨a, b, c, d, hl, _⟩ := addrL_some h
  have hlen := congrArg List.length hl
  rw [List.length_map] at hlen
  match ps, hlen with
  | [p, q, r, t], _ =>
    simp only [List.map_cons, List.map_nil, List.cons.injEq, and_true] at hl
    obtain ⟨h1, h2, h3, h4⟩ := hl
    intro x hx
    simp only [ixs, List.mem_cons, List.not_mem_nil, or_false] at hx
    rcases hx with rfl | rfl | rfl | rfl <;> simp [okA, h1, h2, h3, h4]

theorem A_done (ps : List (List UInt8)) (h : ∀ x ∈ ixs 0 ps, okA x = true) : addrL (ps.map fun p => upToO 255 (bs p)) = if (fA (ixs 0 ps)).2 = 3 then some (fA (ixs 0 ps)).1 else none := by
  match ps with
  | [] => rfl
  | [p] => simp [ixs, fA, stA, addrL]
  | [p, q] => simp [ixs, fA, stA, addrL]
  | [p, q, r] => simp [ixs, fA, stA, addrL]
  | [p, q, r, t] =>
    have g : ∀ x ∈ [p, q, r, t], ∃ n, upToO 255 (bs x) = some n ∧ n ≤ 255 := by
      intro x hx
      have : (upToO 255 (bs x)).isSome = true := by
        simp only [ixs, List.mem_cons, List.not_mem_nil, or_false, forall_eq_or_imp, forall_eq, okA, Bool.and_eq_true] at h hx
        rcases hx with rfl | rfl | rfl | rfl
        · exact h.1.1
        · exact h.2.1.1
        · exact h.2.2.1.1
        · exact h.2.2.2.1
      obtain ⟨n, hn⟩ := opt_some this
      exact ⟨n, hn, (upToO_is _ _ _ hn).1⟩
    obtain ⟨a, h1, k1⟩ := g p (by simp)
    obtain ⟨b, h2, k2⟩ := g q (by simp)
    obtain ⟨c, h3, k3⟩ := g r (by simp)
    obtain ⟨d, h4, k4⟩ := g t (by simp)
    simp [ixs, fA, stA, addrL, h1, h2, h3, h4]
    omega
  | p :: q :: r :: t :: u :: ps =>
    have := h (4, bs u) (by simp [ixs])
    simp [okA] at this

theorem A_stop (ps : List (List UInt8)) (pre : List (Nat × ByteArray)) (hp : pre <+: ixs 0 ps) (x : Nat × ByteArray) (hx : x ∈ pre) (hb : okA x = false) : addrL (ps.map fun p => upToO 255 (bs p)) = none := by
  cases h : addrL (ps.map fun p => upToO 255 (bs p)) with
  | none => rfl
  | some v =>
    have := okA_all h x (hp.subset hx)
    rw [hb] at this; cases this

/-- The net's loop: what is right of the pieces that came. -/
def okN (x : Nat × ByteArray) : Bool := match x.1 with
  | 0 => (addrO x.2).isSome
  | 1 => (upToO 32 x.2).isSome
  | _ => false
structure StN where
  addr : Nat
  bits : Nat
  last : Nat
def stN (s : StN) (x : Nat × ByteArray) : StN := match x.1 with
  | 0 => ⟨(addrO x.2).getD 0, s.bits, 0⟩
  | 1 => ⟨s.addr, (upToO 32 x.2).getD 0, 1⟩
  | n + 2 => ⟨s.addr, s.bits, n + 2⟩
def fN (xs : List (Nat × ByteArray)) : StN := xs.foldl stN ⟨0, 0, 0⟩
theorem fN_snoc (xs : List (Nat × ByteArray)) (x : Nat × ByteArray) : fN (xs ++ [x]) = stN (fN xs) x := by simp [fN]

theorem N_done (ps : List (List UInt8)) (h : ∀ x ∈ ixs 0 ps, okN x = true) : netL ps = if (fN (ixs 0 ps)).last = 1 ∧ rightB (fN (ixs 0 ps)).addr (fN (ixs 0 ps)).bits = true then some ((fN (ixs 0 ps)).addr, (fN (ixs 0 ps)).bits) else none := by
  match ps with
  | [] => simp [netL, fN, ixs]
  | [p] => simp [netL, fN, ixs, stN]
  | [p, q] =>
    have h1 := h (0, bs p) (by simp [ixs])
    have h2 := h (1, bs q) (by simp [ixs])
    simp only [okN] at h1 h2
    obtain ⟨a, ha⟩ := opt_some h1
    obtain ⟨b, hb⟩ := opt_some h2
    simp [netL, fN, ixs, stN, ha, hb]
  | p :: q :: r :: ps =>
    have := h (2, bs r) (by simp [ixs])
    simp [okN] at this
theorem N_stop (ps : List (List UInt8)) (pre : List (Nat × ByteArray)) (hp : pre <+: ixs 0 ps) (x : Nat × ByteArray) (hx : x ∈ pre) (hb : okN x = false) : netL ps = none := by
  have hm := hp.subset hx
  match ps with
  | [] => simp [netL]
  | [p] => simp [netL]
  | [p, q] =>
    simp only [ixs, List.mem_cons, List.not_mem_nil, or_false] at hm
    rcases hm with rfl | rfl
    · simp only [okN] at hb
      have : addrO (bs p) = none := by cases h : addrO (bs p) <;> simp_all
      simp [netL, this]
    · simp only [okN] at hb
      have : upToO 32 (bs q) = none := by cases h : upToO 32 (bs q) <;> simp_all
      simp [netL, this]
  | p :: q :: r :: ps => simp [netL]

end Go.Proofs.Ytcplebbaiambgaa

/- Regions that draw their order: a stronger condition on worlds may be taken up on the way. Nothing of the program is named here. -/
namespace Go.Proofs.Ytcplebbaiambgaa
set_option linter.unusedVariables false
set_option maxRecDepth 100000
set_option linter.unusedSimpArgs false

theorem wpAnyH_mono {P : Program} {md : Region.Mode} {ops : Array Oper} {Q : Exit → Act → World → Prop} {S S' : World → Prop} (hS : ∀ w, S' w → S w) :
    ∀ (fuel : Nat) (listed : Array Bool) (a : Act) (w : World), wpAnyH P md ops Q S' fuel listed a w → wpAnyH P md ops Q S fuel listed a w
  | 0, _, _, _, h => h
  | fuel + 1, _, _, _, h => ⟨h.1, fun i hi => wpOp_mono (fun a' w' h' => ⟨hS w' h'.1, wpAnyH_mono hS fuel _ a' w' h'.2⟩) (h.2 i hi)⟩

/-- 'wpAnyH_take', the operation's own place said outright. -/
theorem take_at {P : Program} {md : Region.Mode} {ops : Array Oper} {Q : Exit → Act → World → Prop} {S : World → Prop} (d : Option Tmp) {i : Nat} {oi : Oper} {v : Value} {fuel : Nat} {listed : Array Bool} {a : Act} {w : World} (hi : ops[i]? = some oi)
    (hd : oi.dst = d) (hs : Region.noSelect ops = true) (hf : Region.free md ops listed i = true) (hr : (Region.ready md ops listed).contains i = true)
    (hQ : ∀ c a w, Q (.panic c) (a.put oi.dst v) w → Q (.panic c) a w) (hy : YieldsIf P ops S oi v a) (hS : S w)
    (h : wpAnyH P md ops Q S fuel (listed.setIfInBounds i true) (a.put d v) w) : wpAnyH P md ops Q S (fuel + 1) listed a w := by
  subst hd
  exact wpAnyH_take hi hs hf hr hQ hy hS h

end Go.Proofs.Ytcplebbaiambgaa

/- syntax: first, right, In, upTo: their contracts. -/
namespace Go.Proofs.Ytcplebbaiambgaa
set_option linter.unusedVariables false
set_option maxRecDepth 100000
set_option linter.unusedSimpArgs false
open Go.RowKit

theorem firstN_le (bits a : Nat) : firstN bits a ≤ a := Nat.div_mul_le_self _ _
theorem first_cast (bits a : Nat) (ha : a < 4294967296) : (a : Int) / 2 ^ (32 - bits) * 2 ^ (32 - bits) % 4294967296 = (firstN bits a : Int) := by
  have h := firstN_le bits a
  have e : (a : Int) / 2 ^ (32 - bits) * 2 ^ (32 - bits) = ((firstN bits a : Nat) : Int) := by simp [firstN]
  rw [e]; omega

set_option maxHeartbeats 400000 in
theorem first_ok (bits a : Nat) (w : World) (hb : bits ≤ 32) (ha : a < 4294967296) :
    Calls Try.prog 58 #[.int .i64 bits, .int .u32 a] w fun e w' => e = .returned (.int .u32 (firstN bits a)) ∧ w = w' := by
  go_enter Try.func58, Try.ntmps58
  go_wp2
  rw [first_cast bits a ha]
  go_ret
  exact ⟨rfl, rfl⟩
theorem first_q (bits a : Nat) (w : World) (hb : bits ≤ 32) (ha : a < 4294967296) :
    Calls Try.prog 58 #[.int .i64 bits, .int .u32 a] w fun e w' => e = .returned (.int .u32 (firstN bits a)) ∧ ∃ m, w' = w.drewN m :=
  (first_ok bits a w hb ha).mono fun e w' ⟨h1, h2⟩ => ⟨h1, 0, h2.symm⟩

theorem cast_eq (x y : Nat) : ((x : Int) == (y : Int)) = decide (x = y) := by
  by_cases h : x = y
  · subst h; simp
  · rw [decide_eq_false h, beq_eq_false_iff_ne]; omega

set_option maxHeartbeats 1000000 in
theorem netright_ok (a : Nat) (bits : Int) (w : World) (ha : a < 4294967296) :
    Calls Try.prog 57 #[.agg #[.int .u32 a, .int .i64 bits]] w fun e w' => e = .returned (.bool (rightB a bits)) ∧ Below w.heap.size w w' := by
  have hbel : ∀ n, Below w.heap.size w ((w.alloc (.cells #[.int .u32 a, .int .i64 bits] 51)).drewN n) := fun n => below_drewN ((Below.refl _ _).alloc (Nat.le_refl _) _) n
  have HB := Lib.hid hbel
  clear hbel
  by_cases h0 : 0 ≤ bits
  · by_cases h1 : bits ≤ 32
    · obtain ⟨b, rfl⟩ := Int.eq_ofNat_of_zero_le h0
      have hb : b ≤ 32 := by omega
      have hr : rightB a b = decide (firstN b a = a) := by
        have e1 : decide ((0 : Int) ≤ (b : Int)) = true := by simp
        have e2 : decide ((b : Int) ≤ 32) = true := by simp; omega
        unfold rightB
        rw [e1, e2]; simp
      rw [hr]
      clear hr h0
      have hd1 : decide ((0 : Int) ≤ (b : Int)) = true := by simp
      have hd2 : decide ((b : Int) ≤ 32) = true := by simp; omega
      have HE := Lib.hid (cast_eq (firstN b a) a)
      go_enter Try.func57, Try.ntmps57
      go_wp2
      go_quiet (((go_at_call 58; with_reducible exact Calls.quiet_of (first_q b a _ hb ha))))
      go_wp2
      go_ret
      exact ⟨by rw [← HE.out]; rfl, HB.out _⟩
    · have hr : rightB a bits = false := by simp [rightB, h1]
      rw [hr]
      clear hr
      have hd1 : decide ((0 : Int) ≤ bits) = true := by simpa using h0
      have hd2 : decide (bits ≤ 32) = false := by simpa using h1
      go_enter Try.func57, Try.ntmps57
      go_wp2
      go_quiet (fail)
      go_wp2
      go_ret
      exact ⟨rfl, HB.out _⟩
  · have hr : rightB a bits = false := by simp [rightB, h0]
    rw [hr]
    clear hr
    have hd1 : decide ((0 : Int) ≤ bits) = false := by simpa using h0
    go_enter Try.func57, Try.ntmps57
    go_wp2
    go_quiet (fail)
    go_wp2
    go_ret
    exact ⟨rfl, HB.out _⟩
end Go.Proofs.Ytcplebbaiambgaa

/- A byte of a text, its place a letter. -/
namespace Go.Proofs.Ytcplebbaiambgaa
set_option linter.unusedVariables false
set_option maxRecDepth 100000
set_option linter.unusedSimpArgs false
open Go.RowKit

theorem sidx (s : ByteArray) (i v : Nat) (h : i < s.size) (hv : (s.data.toList.getD i 0).toNat = v) (w : World) : (Instr.index 9 (.string s) (.int .i64 (i : Int))).run Try.prog w = .ok (.int .u8 (v : Int)) w := by
  subst hv
  rw [run_index_string (P := Try.prog) w 9 s .i64 i Try.underlying9]
  have e : s.data.toList.getD i 0 = s[i] := by
    have h2 : i < s.data.toList.length := h
    have : s.data.toList[i] = s[i] := by
      show s.data.toList[i] = s.data[i]
      simp
    rw [← this, List.getD, List.getElem?_eq_getElem h2]; rfl
  rw [e]
  simp [h]

end Go.Proofs.Ytcplebbaiambgaa

/- syntax: named, Name: their contracts. -/
namespace Go.Proofs.Ytcplebbaiambgaa
set_option linter.unusedVariables false
set_option maxRecDepth 100000
set_option linter.unusedSimpArgs false
open Go.RowKit

/-- May a name have that byte? -/
def nmdB (c : UInt8) : Bool := (decide (97 ≤ c.toNat) && decide (c.toNat ≤ 122)) || (decide (48 ≤ c.toNat) && decide (c.toNat ≤ 57)) || decide (c.toNat = 45)
def nameB (s : ByteArray) : Bool := decide (1 ≤ s.size) && decide (s.size ≤ 20) && decide ((s.data.toList.getD 0 0).toNat ≠ 45) && decide ((s.data.toList.getD (s.size - 1) 0).toNat ≠ 45) && s.data.toList.all nmdB

set_option maxHeartbeats 400000 in
theorem named_ok (c : UInt8) (w : World) :
    Calls Try.prog 59 #[.int .u8 (c.toNat : Int)] w fun e w' => e = .returned (.bool (nmdB c)) ∧ w = w' := by
  obtain ⟨v, hv⟩ : ∃ v, v = c.toNat := ⟨_, rfl⟩
  have hv2 : v < 256 := by rw [hv]; exact c.toNat_lt
  have hN : nmdB c = ((decide (97 ≤ v) && decide (v ≤ 122)) || (decide (48 ≤ v) && decide (v ≤ 57)) || decide (v = 45)) := by rw [nmdB, hv]
  rw [hN, ← hv]
  clear hN hv
  go_enter Try.func59, Try.ntmps59
  go_wp2
  all_goals (go_ret; refine ⟨?_, rfl⟩; show Ending.returned (.bool _) = .returned (.bool _); refine congrArg _ (congrArg _ ?_); rw [Bool.eq_iff_iff]; simp; omega)


set_option maxHeartbeats 1000000 in
theorem name_ok (s : ByteArray) (w : World) (hs : s.size ≤ 140737488355328) :
    Calls Try.prog 47 #[.string s] w fun e w' => e = .returned (.bool (nameB s)) ∧ w = w' := by
  by_cases h0 : s.size = 0
  · have hN : nameB s = false := by simp [nameB, h0]
    rw [hN]
    clear hN
    obtain rfl : s = ⟨#[]⟩ := by cases s; rename_i d; simp [ByteArray.size] at h0; rw [h0]
    go_enter Try.func47, Try.ntmps47
    go_wp2
    go_ret
    exact ⟨rfl, rfl⟩
  have hne : (s.toList == []) = false := by
    rw [beq_eq_false_iff_ne, ByteArray.toList_eq]
    intro h
    apply h0
    have := congrArg List.length h
    simpa using this
  by_cases h1 : 20 < s.size
  · have hN : nameB s = false := by have : ¬ s.size ≤ 20 := by omega
                                    simp [nameB, this]
    rw [hN]
    clear hN
    go_enter Try.func47, Try.ntmps47
    go_wp2
    go_ret
    exact ⟨rfl, rfl⟩
  have hz : 0 < s.size := by omega
  obtain ⟨v0, hv0⟩ : ∃ v0, (s.data.toList.getD 0 0).toNat = v0 := ⟨_, rfl⟩
  obtain ⟨vl, hvl⟩ : ∃ vl, (s.data.toList.getD (s.size - 1) 0).toNat = vl := ⟨_, rfl⟩
  have hx0 : (Instr.index 9 (.string s) (.int .i64 0)).run Try.prog w = .ok (.int .u8 (v0 : Int)) w := sidx s 0 v0 hz hv0 w
  have hd20 : decide ((20 : Int) < (s.size : Int)) = false := by simp; omega
  have hxl := sidx s (s.size - 1) vl (by omega) hvl w
  rw [show ((s.size - 1 : Nat) : Int) = (s.size : Int) - 1 by omega] at hxl
  have hN : nameB s = (decide (v0 ≠ 45) && decide (vl ≠ 45) && s.data.toList.all nmdB) := by
    unfold nameB
    rw [hv0, hvl, decide_eq_true (by omega : 1 ≤ s.size), decide_eq_true (by omega : s.size ≤ 20)]; simp
  rw [hN]
  clear hN hv0 hvl
  by_cases d0 : v0 = 45
  · subst d0
    go_enter Try.func47, Try.ntmps47
    go_wp2
    go_ret
    exact ⟨rfl, rfl⟩
  have e0 : ((v0 : Int) == 45) = false := by rw [beq_eq_false_iff_ne]; omega
  by_cases dl : vl = 45
  · subst dl
    rw [decide_eq_true d0]
    clear d0
    go_enter Try.func47, Try.ntmps47
    go_wp2
    go_ret
    exact ⟨rfl, rfl⟩
  have el : ((vl : Int) == 45) = false := by rw [beq_eq_false_iff_ne]; omega
  rw [decide_eq_true d0, decide_eq_true dl]
  obtain ⟨R, hR⟩ : ∃ R, R = (true && true && s.data.toList.all nmdB) := ⟨_, rfl⟩
  rw [← hR]
  have HR := Lib.hid (show R = s.data.toList.all nmdB by rw [hR]; simp)
  clear hR d0 dl
  go_enter Try.func47, Try.ntmps47
  go_wp2_with fail
  clear hx0 hxl e0 el hne hd20
  go_loop [26] (fun v26 => ∃ i : Nat, i ≤ s.size ∧ v26 = .int .i64 i ∧ Hid (R = (s.data.toList.drop i).all nmdB)) (fun v26 => s.size - (intOf v26).toNat)
  case atStart => exact ⟨0, by omega, rfl, HR⟩
  case round =>
    obtain ⟨i, hi, rfl, HE⟩ := hrel
    clear HR
    by_cases hlt : i < s.size
    · obtain ⟨c, hc⟩ : ∃ c, s.data.toList.getD i 0 = c := ⟨_, rfl⟩
      have hxi := sidx s i c.toNat hlt (by rw [hc]) w
      have hcons : s.data.toList.drop i = c :: s.data.toList.drop (i + 1) := by
        have h2 : i < s.data.toList.length := hlt
        rw [List.drop_eq_getElem_cons h2, ← hc, List.getD, List.getElem?_eq_getElem h2]; rfl
      have HC := Lib.hid (show R = (nmdB c && (s.data.toList.drop (i + 1)).all nmdB) by rw [HE.out, hcons, List.all_cons])
      clear hcons hc
      have HNM := Lib.hid (named_ok c w)
      by_cases hb : nmdB c = true
      · rw [hb] at HC HNM
        go_wp2_with (refine HNM.out.mono ?_; rintro e w' ⟨rfl, rfl⟩)
        go_round
        case rel => exact ⟨i + 1, by omega, by go_num, Lib.hid (by rw [HC.out]; simp)⟩
        case measure => simp [intOf]; omega
      · have hb2 : nmdB c = false := by simpa using hb
        rw [hb2] at HC HNM
        clear hb hb2
        go_wp2_with (refine HNM.out.mono ?_; rintro e w' ⟨rfl, rfl⟩)
        go_ret
        exact ⟨by rw [HC.out]; rfl, rfl⟩
    · have HF := Lib.hid (show R = true by rw [HE.out, List.drop_of_length_le (by show s.size ≤ i; omega)]; rfl)
      go_wp2
      go_ret
      exact ⟨by rw [HF.out]; rfl, rfl⟩
end Go.Proofs.Ytcplebbaiambgaa

/- Words of 32 bits as plain numbers, and the sum of bytes over them: what the document asks (SHA-256), as Lean functions. Nothing of the program is named here. -/
namespace Go.Proofs.Ytcplebbaiambgaa
set_option linter.unusedVariables false
set_option maxRecDepth 100000
set_option linter.unusedSimpArgs false

def wadd (a b : Nat) : Nat := (a + b) % 4294967296
def wxor (a b : Nat) : Nat := (a ^^^ b) % 4294967296
def wand (a b : Nat) : Nat := (a &&& b) % 4294967296
def wor (a b : Nat) : Nat := (a ||| b) % 4294967296
def wnot (a : Nat) : Nat := 4294967295 - a % 4294967296
def wshl (a n : Nat) : Nat := (a * 2 ^ n) % 4294967296
def wshr (a n : Nat) : Nat := (a % 4294967296) / 2 ^ n
/-- Turned to the right. -/
def rotr (x n : Nat) : Nat := wor (wshr x n) (wshl x (32 - n))
def great (x a b c : Nat) : Nat := wxor (wxor (rotr x a) (rotr x b)) (rotr x c)
def small (x a b c : Nat) : Nat := wxor (wxor (rotr x a) (rotr x b)) (wshr x c)

def H0 : List Nat := [0x6a09e667, 0xbb67ae85, 0x3c6ef372, 0xa54ff53a, 0x510e527f, 0x9b05688c, 0x1f83d9ab, 0x5be0cd19]
def KK : List Nat := [
  0x428a2f98, 0x71374491, 0xb5c0fbcf, 0xe9b5dba5, 0x3956c25b, 0x59f111f1, 0x923f82a4, 0xab1c5ed5,
  0xd807aa98, 0x12835b01, 0x243185be, 0x550c7dc3, 0x72be5d74, 0x80deb1fe, 0x9bdc06a7, 0xc19bf174,
  0xe49b69c1, 0xefbe4786, 0x0fc19dc6, 0x240ca1cc, 0x2de92c6f, 0x4a7484aa, 0x5cb0a9dc, 0x76f988da,
  0x983e5152, 0xa831c66d, 0xb00327c8, 0xbf597fc7, 0xc6e00bf3, 0xd5a79147, 0x06ca6351, 0x14292967,
  0x27b70a85, 0x2e1b2138, 0x4d2c6dfc, 0x53380d13, 0x650a7354, 0x766a0abb, 0x81c2c92e, 0x92722c85,
  0xa2bfe8a1, 0xa81a664b, 0xc24b8b70, 0xc76c51a3, 0xd192e819, 0xd6990624, 0xf40e3585, 0x106aa070,
  0x19a4c116, 0x1e376c08, 0x2748774c, 0x34b0bcb5, 0x391c0cb3, 0x4ed8aa4a, 0x5b9cca4f, 0x682e6ff3,
  0x748f82ee, 0x78a5636f, 0x84c87814, 0x8cc70208, 0x90befffa, 0xa4506ceb, 0xbef9a3f7, 0xc67178f2]

/-- Eight words: a to h, or H0 to H7. -/
structure St where
  a : Nat
  b : Nat
  c : Nat
  d : Nat
  e : Nat
  f : Nat
  g : Nat
  h : Nat

/-- One byte of a row as a number; 0 behind its end. -/
def byteAt (l : List UInt8) (i : Nat) : Nat := (l.getD i 0).toNat
/-- A word of four bytes, the highest first. -/
def wordAt (l : List UInt8) (p : Nat) : Nat := wor (wor (wor (wshl (byteAt l p) 24) (wshl (byteAt l (p + 1)) 16)) (wshl (byteAt l (p + 2)) 8)) (byteAt l (p + 3))
/-- The sixteen words of the block that begins at p. -/
def words16 (l : List UInt8) (p : Nat) : List Nat := (List.range 16).map fun i => wordAt l (p + 4 * i)
/-- One word more of a schedule. -/
def nextW (l : List Nat) : Nat :=
  wadd (wadd (wadd (small (l.getD (l.length - 2) 0) 17 19 10) (l.getD (l.length - 7) 0)) (small (l.getD (l.length - 15) 0) 7 18 3)) (l.getD (l.length - 16) 0)
def schedL (l : List Nat) : Nat → List Nat
  | 0 => l
  | n + 1 => schedL l n ++ [nextW (schedL l n)]
def sched (l : List Nat) : List Nat := schedL l 48
def rX (s : St) (k w : Nat) : Nat := wadd (wadd (wadd (wadd s.h (great s.e 6 11 25)) (wxor (wand s.e s.f) (wand (wnot s.e) s.g))) k) w
def rY (s : St) : Nat := wadd (great s.a 2 13 22) (wxor (wxor (wand s.a s.b) (wand s.a s.c)) (wand s.b s.c))
def round1 (s : St) (k w : Nat) : St := ⟨wadd (rX s k w) (rY s), s.a, s.b, s.c, wadd s.d (rX s k w), s.e, s.f, s.g⟩
def rounds (w : List Nat) (s : St) : Nat → St
  | 0 => s
  | n + 1 => round1 (rounds w s n) (KK.getD n 0) (w.getD n 0)
def addS (s t : St) : St := ⟨wadd s.a t.a, wadd s.b t.b, wadd s.c t.c, wadd s.d t.d, wadd s.e t.e, wadd s.f t.f, wadd s.g t.g, wadd s.h t.h⟩
def block1 (s : St) (w : List Nat) : St := addS s (rounds w s 64)
/-- The state behind n blocks of l. -/
def thr (s : St) (l : List UInt8) : Nat → St
  | 0 => s
  | n + 1 => block1 (thr s l n) (sched (words16 l (64 * n)))
def S0 : St := ⟨0x6a09e667, 0xbb67ae85, 0x3c6ef372, 0xa54ff53a, 0x510e527f, 0x9b05688c, 0x1f83d9ab, 0x5be0cd19⟩
/-- The eight bytes of a number of 64 bits, the highest first. -/
def be8 (n : Nat) : List UInt8 := (List.range 8).map fun i => UInt8.ofNat (n / 256 ^ (7 - i))
/-- How many blocks the bytes and what is put behind them make. -/
def nblk (n : Nat) : Nat := (n + 8) / 64 + 1
def pad (l : List UInt8) : List UInt8 := l ++ (128 :: List.replicate (64 * nblk l.length - 9 - l.length) 0) ++ be8 (8 * l.length)
def St.list (s : St) : List Nat := [s.a, s.b, s.c, s.d, s.e, s.f, s.g, s.h]
def outB (s : St) : List UInt8 := (List.range 32).map fun i => UInt8.ofNat ((s.list.getD (i / 4) 0) / 2 ^ (24 - 8 * (i % 4)))
def sum (l : List UInt8) : List UInt8 := outB (thr S0 (pad l) (nblk l.length))
set_option maxRecDepth 100000 in
theorem sum_nil : sum [] = [227, 176, 196, 66, 152, 252, 28, 20, 154, 251, 244, 200, 153, 111, 185, 36, 39, 174, 65, 228, 100, 155, 147, 76, 164, 149, 153, 27, 120, 82, 184, 85] := by decide +kernel
set_option maxRecDepth 100000 in
theorem sum_abc : sum [97, 98, 99] = [186, 120, 22, 191, 143, 1, 207, 234, 65, 65, 64, 222, 93, 174, 34, 35, 176, 3, 97, 163, 150, 23, 122, 156, 180, 16, 255, 97, 242, 0, 21, 173] := by decide +kernel

/-! How the walk spells them. -/
theorem w_add (x y : Nat) : IntKind.u32.wrap ((x : Int) + (y : Int)) = ((wadd x y : Nat) : Int) := by
  rw [IntKind.wrap_u32']; unfold wadd; omega
theorem v_add (x y : Nat) : ((x : Int) + (y : Int)) % 4294967296 = ((wadd x y : Nat) : Int) := by unfold wadd; omega
theorem v_shl (x n : Nat) : (x : Int) * 2 ^ n % 4294967296 = ((wshl x n : Nat) : Int) := by
  unfold wshl; rw [Int.natCast_emod, Int.natCast_mul, Int.natCast_pow]; rfl
theorem ofInt32 (a : Nat) : (BitVec.ofInt 32 (a : Int)).toNat = a % 4294967296 := by
  rw [BitVec.ofInt_natCast, BitVec.toNat_ofNat]
theorem xor_mod (a b : Nat) : (a % 4294967296) ^^^ (b % 4294967296) = (a ^^^ b) % 4294967296 := by
  have : (4294967296 : Nat) = 2 ^ 32 := rfl
  rw [this, Nat.xor_mod_two_pow]
theorem and_mod (a b : Nat) : (a % 4294967296) &&& (b % 4294967296) = (a &&& b) % 4294967296 := by
  have : (4294967296 : Nat) = 2 ^ 32 := rfl
  rw [this, Nat.and_mod_two_pow]
theorem or_mod (a b : Nat) : (a % 4294967296) ||| (b % 4294967296) = (a ||| b) % 4294967296 := by
  have : (4294967296 : Nat) = 2 ^ 32 := rfl
  rw [this, Nat.or_mod_two_pow]
theorem w_xor (x y : Nat) : bits .xor .u32 (x : Int) (y : Int) = ((wxor x y : Nat) : Int) := by
  show IntKind.u32.wrap ((BitVec.ofInt 32 (x : Int) ^^^ BitVec.ofInt 32 (y : Int)).toNat : Int) = _
  rw [BitVec.toNat_xor, ofInt32, ofInt32, xor_mod, IntKind.wrap_u32']; unfold wxor; omega
theorem w_and (x y : Nat) : bits .and .u32 (x : Int) (y : Int) = ((wand x y : Nat) : Int) := by
  show IntKind.u32.wrap ((BitVec.ofInt 32 (x : Int) &&& BitVec.ofInt 32 (y : Int)).toNat : Int) = _
  rw [BitVec.toNat_and, ofInt32, ofInt32, and_mod, IntKind.wrap_u32']; unfold wand; omega
theorem w_or (x y : Nat) : bits .or .u32 (x : Int) (y : Int) = ((wor x y : Nat) : Int) := by
  show IntKind.u32.wrap ((BitVec.ofInt 32 (x : Int) ||| BitVec.ofInt 32 (y : Int)).toNat : Int) = _
  rw [BitVec.toNat_or, ofInt32, ofInt32, or_mod, IntKind.wrap_u32']; unfold wor; omega
theorem all_xor (x : Nat) : 4294967295 ^^^ (x % 4294967296) = 4294967295 - x % 4294967296 := by
  have h : x % 4294967296 < 2 ^ 32 := Nat.mod_lt _ (by decide)
  have h1 := BitVec.toNat_not (x := BitVec.ofNat 32 (x % 4294967296))
  have h2 : ~~~(BitVec.ofNat 32 (x % 4294967296)) = BitVec.allOnes 32 ^^^ BitVec.ofNat 32 (x % 4294967296) := by
    rw [BitVec.allOnes_xor]
  rw [h2, BitVec.toNat_xor, BitVec.toNat_allOnes, BitVec.toNat_ofNat] at h1
  have e : x % 4294967296 % 2 ^ 32 = x % 4294967296 := Nat.mod_eq_of_lt h
  rw [e] at h1
  exact h1
theorem w_not (x : Nat) : bits .xor .u32 4294967295 (x : Int) = ((wnot x : Nat) : Int) := by
  show IntKind.u32.wrap ((BitVec.ofInt 32 ((4294967295 : Nat) : Int) ^^^ BitVec.ofInt 32 (x : Int)).toNat : Int) = _
  have e : 4294967295 % 4294967296 = 4294967295 := by decide
  rw [BitVec.toNat_xor, ofInt32, ofInt32, e, all_xor, IntKind.wrap_u32']; unfold wnot; omega
theorem w_shl (x n : Nat) (h : n ≤ 32) : IntKind.u32.wrap ((x : Int) * 2 ^ n) = ((wshl x n : Nat) : Int) := by
  rw [IntKind.wrap_u32']; unfold wshl; rw [Int.natCast_emod, Int.natCast_mul, Int.natCast_pow]; rfl
theorem w_shr (x n : Nat) (h : x < 4294967296) : (x : Int) / 2 ^ n = ((wshr x n : Nat) : Int) := by
  unfold wshr; rw [Nat.mod_eq_of_lt h, Int.natCast_ediv, Int.natCast_pow]; rfl
theorem wadd_lt (a b : Nat) : wadd a b < 4294967296 := Nat.mod_lt _ (by decide)
theorem wxor_lt (a b : Nat) : wxor a b < 4294967296 := Nat.mod_lt _ (by decide)
theorem wand_lt (a b : Nat) : wand a b < 4294967296 := Nat.mod_lt _ (by decide)
theorem wor_lt (a b : Nat) : wor a b < 4294967296 := Nat.mod_lt _ (by decide)
theorem wnot_lt (a : Nat) : wnot a < 4294967296 := by unfold wnot; omega
theorem wshl_lt (a b : Nat) : wshl a b < 4294967296 := Nat.mod_lt _ (by decide)
theorem wshr_lt (a b : Nat) : wshr a b < 4294967296 := Nat.lt_of_le_of_lt (Nat.div_le_self _ _) (Nat.mod_lt _ (by decide))
theorem rotr_lt (x n : Nat) : rotr x n < 4294967296 := wor_lt _ _
theorem great_lt (x a b c : Nat) : great x a b c < 4294967296 := wxor_lt _ _
theorem small_lt (x a b c : Nat) : small x a b c < 4294967296 := wxor_lt _ _
theorem wor_comm (a b : Nat) : wor a b = wor b a := by unfold wor; rw [Nat.or_comm]
theorem words16_len (l : List UInt8) (p : Nat) : (words16 l p).length = 16 := by
  unfold words16; rw [List.length_map, List.length_range]
theorem words16_at (l : List UInt8) (p i : Nat) (hi : i < 16) : (words16 l p).getD i 0 = wordAt l (p + 4 * i) := by
  unfold words16
  have h : (List.range 16)[i]? = some i := by rw [List.getElem?_range hi]
  rw [List.getD, List.getElem?_map, h, Option.map_some, Option.getD_some]
/-- A word as a value. -/
abbrev wd (x : Nat) : Value := .int .u32 (x : Int)
end Go.Proofs.Ytcplebbaiambgaa

/- Arrays of words in memory, known whole. Nothing of the program is named here. -/
namespace Go.Proofs.Ytcplebbaiambgaa
set_option linter.unusedVariables false
set_option maxRecDepth 100000
set_option linter.unusedSimpArgs false
open Go.RowKit

/-- Words as cells. -/
def wcells (l : List Nat) : Array Value := (l.map wd).toArray
theorem wcells_size (l : List Nat) : (wcells l).size = l.length := by simp [wcells]
theorem wcells_at (l : List Nat) (i : Nat) (h : i < l.length) : (wcells l)[i]? = some (wd (l.getD i 0)) := by simp [wcells, h, List.getD]
theorem wcells_one (l : List Nat) : (wcells l).all (·.oneCell') = true := by
  rw [Array.all_eq_true_iff_forall_mem]
  intro v hv
  simp only [wcells, List.mem_toArray, List.mem_map] at hv
  obtain ⟨x, _, rfl⟩ := hv
  rfl
/-- The first words of n, the others 0. -/
def pre (l : List Nat) (n : Nat) : List Nat := l ++ List.replicate (n - l.length) 0
theorem pre_len (l : List Nat) (n : Nat) (h : l.length ≤ n) : (pre l n).length = n := by simp [pre]; omega
theorem pre_full (l : List Nat) (n : Nat) (h : l.length = n) : pre l n = l := by simp [pre, h]
theorem pre_at (l : List Nat) (n j : Nat) (h : j < l.length) : (pre l n).getD j 0 = l.getD j 0 := by
  simp [pre, List.getD, List.getElem?_append, h]
theorem wcells_set (l : List Nat) (i x : Nat) : (wcells l).setIfInBounds i (wd x) = wcells (l.set i x) := by
  simp [wcells, List.map_set]
theorem pre_set (l : List Nat) (n x : Nat) (h : l.length < n) : (pre l n).set l.length x = pre (l ++ [x]) n := by
  unfold pre
  obtain ⟨k, hk⟩ : ∃ k, n - l.length = k + 1 := ⟨n - l.length - 1, by omega⟩
  have e : n - (l ++ [x]).length = k := by simp; omega
  rw [hk, e, List.set_append_right _ _ (Nat.le_refl _), Nat.sub_self, List.replicate_succ, List.set_cons_zero]
  simp

theorem take_next (l : List Nat) (i : Nat) (h : i < l.length) : l.take i ++ [l.getD i 0] = l.take (i + 1) := by
  rw [List.take_add_one, List.getD, List.getElem?_eq_getElem h]; rfl
/-- The cell that is written next, and what lies there then. -/
theorem pre_next (l : List Nat) (n i x : Nat) (hn : l.length = n) (hi : i < n) (hx : l.getD i 0 = x) :
    (wcells (pre (l.take i) n))[i]? = some (wd 0) ∧ (wcells (pre (l.take i) n)).setIfInBounds i (wd x) = wcells (pre (l.take (i + 1)) n) := by
  have hl : (l.take i).length = i := by rw [List.length_take]; omega
  constructor
  · rw [wcells_at _ _ (by rw [pre_len _ _ (by omega)]; exact hi)]
    congr 2
    unfold pre
    rw [List.getD, List.getElem?_append_right (by omega), hl, Nat.sub_self]
    rw [List.getElem?_replicate]
    split <;> rfl
  · rw [wcells_set, ← take_next l i (by omega), hx]
    have := pre_set (l.take i) n x (by omega)
    rw [hl] at this
    rw [this]
theorem splice_pre (l : List Nat) (n : Nat) (h : l.length ≤ n) : splice ((pre [] n).map wd) 0 (l.map wd) = (pre l n).map wd := by
  simp only [splice, pre, List.take_zero, List.nil_append, List.length_map, Nat.zero_add, List.length_nil, Nat.sub_zero, List.map_replicate, List.drop_replicate, List.map_append]
/-- One array is being filled: all below it stands, and but for one place it is as it was. -/
def Fill (wr : World) (g : Nat) (t : TypeId) (C : Array Value) (i : Nat) (u : World) : Prop := Below g wr u ∧ ∃ x, Bk u g t (C.setIfInBounds i x)
theorem Fill.first {wr : World} {g : Nat} {t : TypeId} {C : Array Value} {i : Nat} (h : Bk wr g t C) (hi : i < C.size) : Fill wr g t C i wr.drew :=
  ⟨(Below.refl _ _).drew, C[i], by
    have : C.setIfInBounds i C[i] = C := by
      apply Array.ext
      · simp
      · intro j h1 h2
        rw [Array.getElem_setIfInBounds]
        split
        · rename_i e; subst e; rfl
        · rfl
    rw [this]; exact h.drew⟩
theorem Fill.below {wr : World} {g : Nat} {t : TypeId} {C : Array Value} {i : Nat} {u u' : World} (h : Fill wr g t C i u) (hb : Below u.heap.size u u') : Fill wr g t C i u' := by
  obtain ⟨h1, x, h2⟩ := h
  have hg := h2.lt
  exact ⟨h1.trans (hb.mono (by omega)), x, h2.below hb hg⟩
theorem Fill.cell {wr : World} {g : Nat} {t : TypeId} {C : Array Value} {i : Nat} {u : World} (h : Fill wr g t C i u) (j : Nat) (hj : j ≠ i) : u.cell? ⟨g, j, none⟩ = C[j]? := by
  obtain ⟨_, x, h2⟩ := h
  rw [h2.cell, Array.getElem?_setIfInBounds, if_neg (Ne.symm hj)]
theorem Fill.here {wr : World} {g : Nat} {t : TypeId} {C : Array Value} {i : Nat} {u : World} (h : Fill wr g t C i u) (hi : i < C.size) : ∃ v, u.cell? ⟨g, i, none⟩ = some v := by
  obtain ⟨_, x, h2⟩ := h
  exact ⟨x, by rw [h2.cell, Array.getElem?_setIfInBounds, if_pos rfl, if_pos hi]⟩
theorem Fill.frozen {wr : World} {g : Nat} {t : TypeId} {C : Array Value} {i : Nat} {u : World} (h : Fill wr g t C i u) (j : Nat) : u.frozen? ⟨g, j, none⟩ = false := by
  obtain ⟨_, x, h2⟩ := h
  exact h2.frozen j
theorem Fill.set {wr : World} {g : Nat} {t : TypeId} {C : Array Value} {i : Nat} {u : World} (h : Fill wr g t C i u) (v : Value) :
    Fill wr g t C i (u.setCell ⟨g, i, none⟩ v) ∧ Bk (u.setCell ⟨g, i, none⟩ v) g t (C.setIfInBounds i v) ∧ Below g wr (u.setCell ⟨g, i, none⟩ v) := by
  obtain ⟨h1, x, h2⟩ := h
  have e : (C.setIfInBounds i x).setIfInBounds i v = C.setIfInBounds i v := by
    simp
  have hb : Bk (u.setCell ⟨g, i, none⟩ v) g t (C.setIfInBounds i v) := by
    have := h2.set i v
    rw [e] at this
    exact this
  have hB : Below g wr (u.setCell ⟨g, i, none⟩ v) := h1.setCell (p := ⟨g, i, none⟩) (Nat.le_refl _) _
  exact ⟨⟨hB, v, hb⟩, hb, hB⟩
/-- An element of an array that is a value. -/
theorem wpList_index {P : Program} {ops : Array Oper} {rest : List Oper} {o : Oper} {a : Act} {Q : Exit → Act → World → Prop} {w : World} (hgd : o.guard = none) (t : TypeId) (x i : Operand) (ho : o.op = .index t x i) (vx vi v : Value) (hx : a.eval x = vx) (hi : a.eval i = vi)
    (hr : (Instr.index t vx vi).run P w = .ok v w) (h : wpList P ops Q rest (a.put o.dst v) w) : wpList P ops Q (o :: rest) a w :=
  wpList_plain hgd fun _ hK => by
    unfold Oper.wp execOp
    simp only [ho, hx, hi, Sem.run_bind, hr, Result.andThen_ok, Sem.run_pure]
    exact hK _ _ h
/-- From here on the world is one of which S holds. -/
theorem gen_world {P : Program} {c : Code} {Q : Exit → Act → World → Prop} {a : Act} {w : World} (S : World → Prop) (hS : S w) (h : ∀ u, S u → c.wp P Q a u) : c.wp P Q a w := h w hS
theorem Bk.setRow {w : World} {g : Nat} {t : TypeId} {cs : Array Value} (h : Bk w g t cs) (cs' : Array Value) : Bk (w.setRow g cs') g t cs' := setRow_heap w g cs cs' t (0, 0) h
theorem Bk.setRowFar {w : World} {g g' : Nat} {t : TypeId} {cs : Array Value} (h : Bk w g t cs) (hg : g ≠ g') (cs' : Array Value) : Bk (w.setRow g' cs') g t cs := by
  have : (w.setRow g' cs').heap[g]? = w.heap[g]? := by
    unfold World.setRow
    simp only [Array.getElem?_modify]
    rw [if_neg (Ne.symm hg)]
  exact this.trans h
theorem Below.setRow {B : Nat} {a w : World} (h : Below B a w) (g : Nat) (hg : B ≤ g) (cs : Array Value) : Below B a (w.setRow g cs) :=
  ⟨h.os, h.tape, h.output, by show a.heap.size ≤ (w.heap.modify g _).size; rw [Array.size_modify]; exact h.size, fun i hi => by
    have : (w.setRow g cs).heap[i]? = w.heap[i]? := by
      unfold World.setRow
      simp only [Array.getElem?_modify]
      rw [if_neg (by omega)]
    exact this.trans (h.block i hi)⟩
theorem Bk.drewN' {w : World} {g : Nat} {t : TypeId} {cs : Array Value} (h : Bk w g t cs) (n : Nat) : Bk (w.drewN n) g t cs := h
end Go.Proofs.Ytcplebbaiambgaa
