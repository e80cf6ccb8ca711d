/- Base, Hmf, Numb, RdrS, Parse, DigMath, OrdMath, FoldM: texts of this seat, one behind the other. -/
import Derived.WalkKit
import Derived.WalkSpells
import Derived.WalkLawsBesides
import Derived.Lib.Hide
import Derived.Handy
import Derived.Laws.BytesArg
import Derived.Laws.EntriesVeiled
import Derived.Test.YtpbobmiajjgekaaRows
import Derived.BigQuiet
import Derived.Deep.QuietTactic
/- Words for memory that all texts of this seat use: a block that is known whole, bytes that a slice reads as. Nothing of the program is named here. -/
namespace Go.Proofs.Ytpbobmiajjgekaa
set_option linter.unusedVariables false
set_option maxRecDepth 100000
set_option linter.unusedSimpArgs false
open Go.RowKit

/-- One byte as a value. -/
abbrev u8 (c : UInt8) : Value := .int .u8 (c.toNat : Int)

/-- Block g is the cells cs of type t, none of them frozen. -/
def Bk (w : World) (g : Nat) (t : TypeId) (cs : Array Value) : Prop := w.heap[g]? = some (.cells cs t (0, 0))

theorem Bk.lt {w : World} {g : Nat} {t : TypeId} {cs : Array Value} (h : Bk w g t cs) : g < w.heap.size := lt_of_block h
theorem Bk.cell {w : World} {g : Nat} {t : TypeId} {cs : Array Value} (h : Bk w g t cs) (i : Nat) : w.cell? ⟨g, i, none⟩ = cs[i]? := cell_of_row w g i cs t (0, 0) h
theorem Bk.frozen {w : World} {g : Nat} {t : TypeId} {cs : Array Value} (h : Bk w g t cs) (i : Nat) : w.frozen? ⟨g, i, none⟩ = false := frozen_of_row w g i cs t h
theorem Bk.new (w : World) (t : TypeId) (cs : Array Value) : Bk (w.alloc (.cells cs t)) w.heap.size t cs := heap_alloc_new w _
theorem Bk.here {w : World} {t : TypeId} {cs : Array Value} {n : Nat} (h : n = w.heap.size) : Bk (w.alloc (.cells cs t)) n t cs := by subst h; exact Bk.new w t cs
theorem Bk.drewN {w : World} {g : Nat} {t : TypeId} {cs : Array Value} (h : Bk w g t cs) (n : Nat) : Bk (w.drewN n) g t cs := h
theorem Bk.drew {w : World} {g : Nat} {t : TypeId} {cs : Array Value} (h : Bk w g t cs) : Bk w.drew g t cs := h
theorem Bk.alloc {w : World} {g : Nat} {t : TypeId} {cs : Array Value} (h : Bk w g t cs) (o : Obj) : Bk (w.alloc o) g t cs := (Below.heap_alloc w o g h.lt).trans h
theorem Bk.set {w : World} {g : Nat} {t : TypeId} {cs : Array Value} (h : Bk w g t cs) (i : Nat) (u : Value) : Bk (w.setCell ⟨g, i, none⟩ u) g t (cs.setIfInBounds i u) :=
  heap_setCell_same w g i cs t u h
theorem Bk.far {w : World} {g : Nat} {t : TypeId} {cs : Array Value} (h : Bk w g t cs) {p : Addr} (hp : g ≠ p.block) (u : Value) : Bk (w.setCell p u) g t cs := (heap_setCell_other w p g u hp).trans h
theorem Bk.below {w w' : World} {B g : Nat} {t : TypeId} {cs : Array Value} (h : Bk w g t cs) (hb : Below B w w') (hg : g < B) : Bk w' g t cs := (hb.block g hg).trans h

/-- make([]byte, n): the world behind it written out. -/
theorem mk_bytes {P : Program} (w : World) (t e : TypeId) (ht : P.underlying t = some (.slice e)) (hi : (P.info? e).map (fun i => (i.zero, i.size, i.bytes)) = some (some (.int .u8 0), 1, 1)) (n : Nat) (hn : n ≤ 140737488355328) (cs : Array Value) (hcs : cs = Array.replicate n (.int .u8 0)) (kl kc : IntKind := .i64) :
    (Instr.makeSlice t (.int kl (n : Int)) (.int kc (n : Int))).run P w = .ok (.slice (some ⟨w.heap.size, 0, none⟩) n n) (w.alloc (.cells cs e)) := by
  obtain ⟨i, hi1, hz, hs, hb⟩ := info_parts hi
  have h := run_make (P := P) w t e i (.int .u8 0) ht hi1 hz kl kc n n (by omega) (by omega) (by rw [hb]; omega) (by omega)
  rw [h]
  have e1 : madeCells #[Value.int .u8 0] n = cs := by
    rw [hcs]; apply Array.ext'; rw [toList_madeCells_one]; simp
  simp [hs, Value.cells, e1]

/-- Bytes as cells. -/
def bcells (l : List UInt8) : Array Value := (l.map u8).toArray
theorem bcells_size (l : List UInt8) : (bcells l).size = l.length := by simp [bcells]
theorem bcells_at (l : List UInt8) (i : Nat) (h : i < l.length) : (bcells l)[i]? = some (.int .u8 ((l[i]).toNat : Int)) := by simp [bcells, h]

/-- The slice at A reads as the bytes l, and lies below block B. -/
def Rb (w : World) (B : Nat) (A : Option Addr) (l : List UInt8) : Prop :=
  l = [] ∨ ∃ b o, A = some ⟨b, o, none⟩ ∧ b < B ∧ ∀ i, (h : i < l.length) → w.cell? ⟨b, o + i, none⟩ = some (.int .u8 ((l[i]).toNat : Int))

theorem Rb.nil (w : World) (B : Nat) (A : Option Addr) : Rb w B A [] := .inl rfl
theorem Rb.below {w w' : World} {B B' : Nat} {A : Option Addr} {l : List UInt8} (h : Rb w B A l) (hb : Below B' w w') (hB : B ≤ B') : Rb w' B A l := by
  rcases h with h | ⟨b, o, e, hlt, hc⟩
  · exact .inl h
  · exact .inr ⟨b, o, e, hlt, fun i hi => (hb.cell (p := ⟨b, o + i, none⟩) (by show b < B'; omega)).trans (hc i hi)⟩
theorem Rb.more {w : World} {B B' : Nat} {A : Option Addr} {l : List UInt8} (h : Rb w B A l) (hB : B ≤ B') : Rb w B' A l := by
  rcases h with h | ⟨b, o, e, hlt, hc⟩
  · exact .inl h
  · exact .inr ⟨b, o, e, by omega, hc⟩
theorem Rb.bk {w : World} {g : Nat} {t : TypeId} {l : List UInt8} (h : Bk w g t (bcells l)) : Rb w (g + 1) (some ⟨g, 0, none⟩) l :=
  .inr ⟨g, 0, rfl, by omega, fun i hi => by rw [h.cell, Nat.zero_add, bcells_at l i hi]⟩
theorem Rb.new (w : World) (t : TypeId) (l : List UInt8) : Rb (w.alloc (.cells (bcells l) t)) (w.heap.size + 1) (some ⟨w.heap.size, 0, none⟩) l := Rb.bk (Bk.new w t _)

theorem strOfNums_u8 (l : List UInt8) : strOfNums (l.map fun c => (c.toNat : Int)) = ⟨l.toArray⟩ := by
  have h := strOfNums_data (l.map fun c => (c.toNat : Int))
  have e : (strOfNums (l.map fun c => (c.toNat : Int))).data = l.toArray := by
    apply Array.ext'
    rw [h, List.map_map]
    have e0 : ((fun n : Int => UInt8.ofNat n.toNat) ∘ fun c : UInt8 => (c.toNat : Int)) = id := by funext c; simp
    rw [e0, List.map_id]
  cases hs : strOfNums (l.map fun c => (c.toNat : Int)) with
  | mk d => rw [hs] at e; simp at e; rw [e]

/-- string(b). -/
theorem str_of {P : Program} {w : World} {B : Nat} {A : Option Addr} {l : List UInt8} (h : Rb w B A l) (src e dst : TypeId) (hs : P.underlying src = some (.slice e)) (he : P.underlying e = some (.int .u8)) (hd : P.underlying dst = some .string) (n cap : Nat) (hn : l.length = n) :
    (convert src dst (.slice A n cap)).run P w = .ok (.string ⟨l.toArray⟩) w := by
  subst hn
  by_cases h0 : l = []
  · subst h0
    cases A with
    | none => exact run_convert_bytes_nil w src e hs he 0 cap dst hd
    | some a =>
      rw [run_convert_bytes_string w src dst e _ _ _ hs he hd]
      have hl := run_loadCells_list (P := P) w a [] (fun j v hj => by simp at hj)
      exact (run_bytesToString (P := P) w a 0 cap [] (by simpa using hl)).trans rfl
  · rcases h with h | ⟨b, o, rfl, _, hc⟩
    · exact absurd h h0
    · have := run_convert_bytes_arg (P := P) w src e hs he b o l.length cap (l.map fun c => (c.toNat : Int)) (by simp) (fun i hi => by
        rw [hc i hi]; simp [List.getD, hi]) dst hd
      rw [this, strOfNums_u8]

end Go.Proofs.Ytpbobmiajjgekaa

/- A function value is made. Nothing of the program is named here. -/
namespace Go.Proofs.Ytpbobmiajjgekaa
set_option linter.unusedVariables false
set_option maxRecDepth 100000
set_option linter.unusedSimpArgs false
open Go.RowKit

theorem hmf {P : Program} : ∀ (fn : Fn) (first cap : Array Value) (w : World), (Instr.makeFunc fn first cap).run P w = .ok (.func fn first cap) w := fun _ _ _ _ => rfl

end Go.Proofs.Ytpbobmiajjgekaa

/- num.number over whatever tells its digits. -/
namespace Go.Proofs.Ytpbobmiajjgekaa
set_option linter.unusedVariables false
set_option maxRecDepth 100000
set_option linter.unusedSimpArgs false
open Go.RowKit

/-- What number reckons of digits that are told: of each the digit, whether it is the last one, whether it is one at all. -/
def numS (b : Nat) (st : Nat → Nat × Bool × Bool) : Nat → Nat → Nat → Option (Nat × Nat)
  | 0, _, _ => none
  | f + 1, k, n =>
    let d := st k
    if d.2.2 = false then none
    else if 1099511627776 < n * b + d.1 ∨ (n * b + d.1 = 0 ∧ d.2.1 = false) then none
    else if d.2.1 = true then some (n * b + d.1, k + 1)
    else numS b st f (k + 1) (n * b + d.1)

/-- How number returns it. -/
def numE : Option (Nat × Nat) → Ending
  | some (n, k) => .returned (.tuple #[.int .i64 n, .int .i64 k, .bool true])
  | none => .returned (.tuple #[.int .i64 0, .int .i64 0, .bool false])

/-- A call of a function with a body goes into it. -/
theorem goes_in {P : Program} {f : FuncId} {fn : Func} {c : Code} (h1 : P.funcs[f]? = some fn) (h2 : (fn.name == "runtime.NumGoroutine") = false) (h3 : fn.body = some c) (args : Array Value) (w : World) :
    (callFunc f args).run P w = .ok (.enter f args) w := by
  have hn : fn.name ≠ "runtime.NumGoroutine" := by simpa using h2
  simp [callFunc, h1, hn, h3, mark]

end Go.Proofs.Ytpbobmiajjgekaa

/- num.reader over a text: what it makes, and what each call of that tells. -/
namespace Go.Proofs.Ytpbobmiajjgekaa
set_option linter.unusedVariables false
set_option maxRecDepth 100000
set_option linter.unusedSimpArgs false
open Go.RowKit

/-- The same over a text. -/
structure RdS (w : World) (g : Nat) (s : ByteArray) (k : Nat) : Prop where
  pos : Bk w (g + 1) 3 #[.int .i64 k]
  from_ : Bk w g 9 #[.string s]
  size : s.size ≤ 140737488355328
  le : k ≤ s.size

theorem RdS.start {w : World} {s : ByteArray} (hl : s.size ≤ 140737488355328) :
    RdS ((w.alloc (.cells #[.string s] 9)).alloc (.cells #[.int .i64 0] 3)) w.heap.size s 0 := by
  have b1 : Bk (w.alloc (.cells #[.string s] 9)) w.heap.size 9 _ := Bk.new w _ _
  have b2 : Bk ((w.alloc (.cells #[.string s] 9)).alloc (.cells #[.int .i64 0] 3)) (w.heap.size + 1) 3 #[.int .i64 0] := by
    have := Bk.new (w.alloc (.cells #[.string s] 9)) 3 #[.int .i64 0]
    simpa using this
  exact ⟨b2, b1.alloc _, hl, by omega⟩

theorem RdS.step {w : World} {g k : Nat} {s : ByteArray} (h : RdS w g s k) (hk : k < s.size) : RdS (w.setCell ⟨g + 1, 0, none⟩ (.int .i64 ((k + 1 : Nat) : Int))) g s (k + 1) :=
  ⟨h.pos.set 0 _, h.from_.far (by show g ≠ g + 1; omega) _, h.size, by omega⟩

theorem RdS.below {w w' : World} {g k B : Nat} {s : ByteArray} (h : RdS w g s k) (hb : Below B w w') (hB : g + 2 ≤ B) : RdS w' g s k :=
  ⟨h.pos.below hb (by omega), h.from_.below hb (by omega), h.size, h.le⟩

end Go.Proofs.Ytpbobmiajjgekaa

/- num.Parse: its contract. -/
namespace Go.Proofs.Ytpbobmiajjgekaa
set_option linter.unusedVariables false
set_option maxRecDepth 100000
set_option linter.unusedSimpArgs false
open Go.RowKit

def stP (s : ByteArray) (k : Nat) : Nat × Bool × Bool := if h : k < s.size then ((s[k]).toNat - 48, decide (k + 1 = s.size), decide (48 ≤ (s[k]).toNat ∧ (s[k]).toNat ≤ 57)) else (0, true, false)
/-- The number of which a text is the decimals. -/
def parseS (s : ByteArray) : Option (Nat × Nat) := numS 10 (stP s) (s.size + 1) 0 0

theorem parse1_fin {w' : World} {g k v S : Nat} {P Q : Prop} (b1 : Bool) (hb : b1 = decide (48 ≤ v ∧ v ≤ 57)) (h : P) (h' : Q) :
    ∃ di lb, Ending.returned (.tuple #[.int .i64 ((v : Int) - 48), .bool ((S : Int) - (k : Int) - 1 == 0), .bool b1]) = Ending.returned (.tuple #[.int .i64 di, .bool lb, .bool (decide (48 ≤ v ∧ v ≤ 57))]) ∧
      (decide (48 ≤ v ∧ v ≤ 57) = true → di = ((v - 48 : Nat) : Int) ∧ lb = decide (k + 1 = S) ∧ P) ∧ Q :=
  ⟨_, _, by rw [hb], (fun h0 => ⟨(by have : 48 ≤ v ∧ v ≤ 57 := (by simpa using h0); omega), (by rw [Bool.eq_iff_iff]; simp; omega), h⟩), h'⟩

/-- How Parse returns it. -/
def parE : Option (Nat × Nat) → Ending
  | some (n, _) => .returned (.tuple #[.int .i64 n, .bool true])
  | none => .returned (.tuple #[.int .i64 0, .bool false])

end Go.Proofs.Ytpbobmiajjgekaa

/- The digits of a number, as lists: plain mathematics. -/
namespace Go.Proofs.Ytpbobmiajjgekaa
set_option linter.unusedVariables false
set_option maxRecDepth 100000
set_option linter.unusedSimpArgs false

/-- The cells of the row of L digits, of which the last k are told. -/
def dcells (b n L k : Nat) : Array Value := ((List.range L).map fun j => Value.int .u8 (if L ≤ j + k then ((n / b ^ (L - 1 - j) % b : Nat) : Int) else 0)).toArray

theorem dcells_none (b n L : Nat) : dcells b n L 0 = Array.replicate L (.int .u8 0) := by
  apply Array.ext
  · simp [dcells]
  · intro i h1 h2
    have : i < L := by simpa [dcells] using h1
    simp [dcells]; omega

theorem dcells_size (b n L k : Nat) : (dcells b n L k).size = L := by simp [dcells]

theorem dcells_at (b n L k i : Nat) (h : i < L) : (dcells b n L k)[i]? = some (.int .u8 (if L ≤ i + k then ((n / b ^ (L - 1 - i) % b : Nat) : Int) else 0)) := by
  simp [dcells, h]

theorem dcells_set (b n L k : Nat) (h : k < L) : (dcells b n L k).setIfInBounds (L - 1 - k) (.int .u8 ((n / b ^ k % b : Nat) : Int)) = dcells b n L (k + 1) := by
  apply Array.ext
  · simp [dcells]
  · intro i h1 h2
    have hi : i < L := by simpa [dcells] using h2
    rw [Array.getElem_setIfInBounds (by simpa [dcells] using hi)]
    by_cases he : L - 1 - k = i
    · subst he
      have e1 : L - 1 - (L - 1 - k) = k := by omega
      have e2 : L ≤ L - 1 - k + (k + 1) := by omega
      simp [dcells, e1, e2]
    · rw [if_neg he]
      have : (L ≤ i + k) ↔ (L ≤ i + (k + 1)) := by omega
      simp [dcells, this]

/-- The digits of n of base b, the highest first. -/
def dg (b n : Nat) : List Nat := if h : b < 2 ∨ n < b then [n] else dg b (n / b) ++ [n % b]
termination_by n
decreasing_by
  have : ¬ (b < 2 ∨ n < b) := h
  exact Nat.div_lt_self (by omega) (by omega)

/-- A number below b^L, and not below b^(L-1) but for L = 1, has L digits, each what division tells. -/
theorem dg_eq (b : Nat) (hb : 2 ≤ b) : ∀ (L n : Nat), 1 ≤ L → n < b ^ L → (L = 1 ∨ b ^ (L - 1) ≤ n) → dg b n = (List.range L).map fun j => n / b ^ (L - 1 - j) % b := by
  intro L
  induction L with
  | zero => intro n h; omega
  | succ L ih =>
    intro n _ hlt hge
    rw [dg]
    by_cases hL : L = 0
    · subst hL
      have : n < b := by simpa using hlt
      simp [this, Nat.mod_eq_of_lt this]
    · have hge' : b ^ L ≤ n := by rcases hge with h | h; omega; simpa using h
      have hbn : b ≤ n := Nat.le_trans (by calc b = b ^ 1 := by simp
                                            _ ≤ b ^ L := Nat.pow_le_pow_right (by omega) (by omega)) hge'
      have hn : ¬ (b < 2 ∨ n < b) := by omega
      rw [dif_neg hn, ih (n / b) (by omega) (by rw [Nat.div_lt_iff_lt_mul (by omega)]; rw [Nat.pow_succ] at hlt; exact hlt)]
      · rw [List.range_succ, List.map_append]
        congr 1
        · apply List.map_congr_left
          intro j hj
          have hj' : j < L := by simpa using hj
          rw [Nat.div_div_eq_div_mul, ← Nat.pow_succ']
          have : L - 1 - j + 1 = L + 1 - 1 - j := by omega
          rw [Nat.succ_eq_add_one, this]
        · simp
      · by_cases h1 : L = 1
        · exact .inl h1
        · refine .inr ?_
          rw [Nat.le_div_iff_mul_le (by omega), ← Nat.pow_succ]
          have : (L - 1).succ = L := by omega
          rw [this]; exact hge'

theorem dg_lt (b : Nat) (hb : 2 ≤ b) : ∀ (n : Nat), ∀ d ∈ dg b n, d < b := by
  intro n
  induction n using Nat.strongRecOn with
  | ind n ih =>
    rw [dg]
    by_cases h : b < 2 ∨ n < b
    · rw [dif_pos h]; intro d hd; simp at hd; omega
    · rw [dif_neg h]
      intro d hd
      rw [List.mem_append] at hd
      rcases hd with hd | hd
      · exact ih (n / b) (Nat.div_lt_self (by omega) (by omega)) d hd
      · simp at hd; rw [hd]; exact Nat.mod_lt _ (by omega)

theorem dg_pos (b n : Nat) : 0 < (dg b n).length := by
  rw [dg]; split <;> simp


/-- A number's bytes. -/
def putB (n : Nat) : List UInt8 := (if n < 128 then [] else (dg 128 (n / 128)).map fun d => UInt8.ofNat (d + 128)) ++ [UInt8.ofNat (n % 128)]
/-- A number's decimals. -/
def decB (n : Nat) : List UInt8 := (dg 10 n).map fun d => UInt8.ofNat (d + 48)

/-- The cells of which the first k are marked. -/
def pcells (a n b L k : Nat) : Array Value := ((List.range L).map fun j => Value.int .u8 (if j < k then ((n / b ^ (L - 1 - j) % b + a : Nat) : Int) else ((n / b ^ (L - 1 - j) % b : Nat) : Int))).toArray

theorem pcells_zero (a n b L : Nat) : pcells a n b L 0 = dcells b n L L := by
  unfold pcells dcells
  congr 1
  apply List.map_congr_left
  intro j hj
  rw [if_neg (by omega), if_pos (by omega)]

theorem pcells_at (a n b L k i : Nat) (h : i < L) : (pcells a n b L k)[i]? = some (.int .u8 (if i < k then ((n / b ^ (L - 1 - i) % b + a : Nat) : Int) else ((n / b ^ (L - 1 - i) % b : Nat) : Int))) := by
  simp [pcells, h]

theorem pcells_set (a n b L k : Nat) (h : k < L) : (pcells a n b L k).setIfInBounds k (.int .u8 ((n / b ^ (L - 1 - k) % b + a : Nat) : Int)) = pcells a n b L (k + 1) := by
  apply Array.ext
  · simp [pcells]
  · intro i h1 h2
    have hi : i < L := by simpa [pcells] using h2
    rw [Array.getElem_setIfInBounds (by simpa [pcells] using hi)]
    by_cases he : k = i
    · subst he
      simp [pcells]
    · rw [if_neg he]
      have : (i < k) ↔ (i < k + 1) := by omega
      simp [pcells, this]

theorem u8_ofNat (d : Nat) (h : d < 256) : (UInt8.ofNat d).toNat = d := by simp [UInt8.toNat_ofNat']; omega

theorem pcells_dec (n L : Nat) (h1 : 1 ≤ L) (hlt : n < 10 ^ L) (hge : L = 1 ∨ 10 ^ (L - 1) ≤ n) : pcells 48 n 10 L L = bcells (decB n) := by
  unfold pcells bcells decB
  rw [dg_eq 10 (by omega) L n h1 hlt hge, List.map_map, List.map_map]
  congr 1
  apply List.map_congr_left
  intro j hj
  have hj' : j < L := by simpa using hj
  have := Nat.mod_lt (n / 10 ^ (L - 1 - j)) (by omega : 10 > 0)
  simp only [Function.comp, if_pos hj']
  rw [u8, u8_ofNat _ (by omega)]

theorem pcells_put (n L : Nat) (h1 : 1 ≤ L) (hlt : n < 128 ^ L) (hge : L = 1 ∨ 128 ^ (L - 1) ≤ n) : pcells 128 n 128 L (L - 1) = bcells (putB n) := by
  obtain ⟨K, rfl⟩ : ∃ K, L = K + 1 := ⟨L - 1, by omega⟩
  unfold pcells bcells putB
  rw [List.range_succ, List.map_append, List.map_append]
  congr 1
  congr 1
  · by_cases hn : n < 128
    · have hK : K = 0 := by
        rcases hge with h | h
        · omega
        · rcases Nat.eq_zero_or_pos K with h0 | h0
          · exact h0
          · have : 128 ^ 1 ≤ 128 ^ K := Nat.pow_le_pow_right (by omega) h0
            have h' : 128 ^ K ≤ n := by simpa using h
            omega
      subst hK
      simp [hn]
    · have hK : 1 ≤ K := by
        rcases Nat.eq_zero_or_pos K with h0 | h0
        · subst h0; simp at hlt; omega
        · exact h0
      have hge' : 128 ^ K ≤ n := by rcases hge with h | h; omega; simpa using h
      rw [if_neg hn, dg_eq 128 (by omega) K (n / 128) hK (by rw [Nat.div_lt_iff_lt_mul (by omega)]; rw [Nat.pow_succ] at hlt; exact hlt), List.map_map, List.map_map]
      · apply List.map_congr_left
        intro j hj
        have hj' : j < K := by simpa using hj
        have e : n / 128 / 128 ^ (K - 1 - j) = n / 128 ^ (K - j) := by
          rw [Nat.div_div_eq_div_mul, ← Nat.pow_succ']
          have : (K - 1 - j).succ = K - j := by omega
          rw [this]
        have := Nat.mod_lt (n / 128 ^ (K - j)) (by omega : 128 > 0)
        simp only [Function.comp, Nat.add_sub_cancel, if_pos hj']
        rw [e, u8, u8_ofNat _ (by omega)]
      · by_cases hk1 : K = 1
        · exact .inl hk1
        · refine .inr ?_
          rw [Nat.le_div_iff_mul_le (by omega), ← Nat.pow_succ]
          have : (K - 1).succ = K := by omega
          rw [this]; exact hge'
  · simp
    omega

theorem putB_length (n L : Nat) (h1 : 1 ≤ L) (hlt : n < 128 ^ L) (hge : L = 1 ∨ 128 ^ (L - 1) ≤ n) : (putB n).length = L := by
  have h := congrArg Array.size (pcells_put n L h1 hlt hge)
  rw [bcells_size] at h
  rw [← h]; simp [pcells]
theorem decB_length (n L : Nat) (h1 : 1 ≤ L) (hlt : n < 10 ^ L) (hge : L = 1 ∨ 10 ^ (L - 1) ≤ n) : (decB n).length = L := by
  have h := congrArg Array.size (pcells_dec n L h1 hlt hge)
  rw [bcells_size] at h
  rw [← h]; simp [pcells]

end Go.Proofs.Ytpbobmiajjgekaa

/- Greater numbers have greater bytes, or more: plain mathematics. -/
namespace Go.Proofs.Ytpbobmiajjgekaa
set_option linter.unusedVariables false
set_option maxRecDepth 100000
set_option linter.unusedSimpArgs false

theorem dg_small {b x : Nat} (h : x < b) : dg b x = [x] := by rw [dg, dif_pos (.inr h)]
theorem dg_big {b x : Nat} (hb : 2 ≤ b) (h : ¬ x < b) : dg b x = dg b (x / b) ++ [x % b] := by
  rw [dg, dif_neg (by omega)]

/-- Fewer, or as many and less. -/
def slx (a b : List UInt8) : Bool := decide (a.length < b.length) || (a.length == b.length && Op.bytesLess a b)

theorem bytesLess_snoc : ∀ (x y : List UInt8) (c d : UInt8), x.length = y.length → Op.bytesLess (x ++ [c]) (y ++ [d]) = (Op.bytesLess x y || (x == y && decide (c < d))) := by
  intro x
  induction x with
  | nil =>
    intro y c d h
    have : y = [] := List.eq_nil_of_length_eq_zero h.symm
    subst this
    simp [Op.bytesLess]
  | cons a x ih =>
    intro y c d h
    cases y with
    | nil => simp at h
    | cons b y =>
      have h' : x.length = y.length := by simpa using h
      simp only [List.cons_append, Op.bytesLess, ih y c d h']
      by_cases hab : a = b
      · subst hab
        simp
      · have e1 : (a == b) = false := by simpa using hab
        simp [e1]

/-- Rows that end in one byte more each. -/
theorem slx_snoc (x y : List UInt8) (c d : UInt8) : slx (x ++ [c]) (y ++ [d]) = (slx x y || (x == y && decide (c < d))) := by
  unfold slx
  rw [List.length_append, List.length_append]
  by_cases h : x.length = y.length
  · rw [bytesLess_snoc x y c d h]
    have h1 : ¬ x.length < y.length := by omega
    simp [h]
  · have h2 : ¬ x = y := fun e => h (by rw [e])
    have e1 : (x == y) = false := by simpa using h2
    have e2 : (x.length == y.length) = false := by simpa using h
    simp [e1, e2]

section
variable (b : Nat) (hb : 2 ≤ b) (f g : Nat → UInt8) (hf : ∀ x y, x < b → y < b → (f x < f y ↔ x < y)) (hg : ∀ x y, x < b → y < b → (g x < g y ↔ x < y))
include hb hf

theorem map_inj : ∀ (x y : Nat), (dg b x).map f = (dg b y).map f → x = y := by
  have inj : ∀ x y, x < b → y < b → f x = f y → x = y := by
    intro x y hx hy h
    rcases Nat.lt_trichotomy x y with h1 | h1 | h1
    · have := (hf x y hx hy).2 h1; rw [h] at this; exact absurd this (by simp)
    · exact h1
    · have := (hf y x hy hx).2 h1; rw [h] at this; exact absurd this (by simp)
  intro x
  induction x using Nat.strongRecOn with
  | ind x ih =>
    intro y h
    by_cases hx : x < b <;> by_cases hy : y < b
    · rw [dg_small hx, dg_small hy] at h
      simp at h
      exact inj x y hx hy h
    · rw [dg_small hx, dg_big hb hy] at h
      have hl := congrArg List.length h
      have hp := dg_pos b (y / b)
      simp only [List.map_append, List.length_append, List.length_map, List.length_cons, List.length_nil] at hl
      omega
    · rw [dg_big hb hx, dg_small hy] at h
      have hl := congrArg List.length h
      have hp := dg_pos b (x / b)
      simp only [List.map_append, List.length_append, List.length_map, List.length_cons, List.length_nil] at hl
      omega
    · rw [dg_big hb hx, dg_big hb hy, List.map_append, List.map_append] at h
      have hl := congrArg List.length h
      simp only [List.length_append, List.length_map, List.length_cons, List.length_nil] at hl
      obtain ⟨h1, h2⟩ := List.append_inj h (by simp; omega)
      have e1 := ih (x / b) (Nat.div_lt_self (by omega) (by omega)) (y / b) h1
      simp at h2
      have e2 := inj (x % b) (y % b) (Nat.mod_lt _ (by omega)) (Nat.mod_lt _ (by omega)) h2
      rw [← Nat.div_add_mod x b, ← Nat.div_add_mod y b, e1, e2]

theorem slx_dg : ∀ (x y : Nat), slx ((dg b x).map f) ((dg b y).map f) = decide (x < y) := by
  intro x
  induction x using Nat.strongRecOn with
  | ind x ih =>
    intro y
    by_cases hx : x < b <;> by_cases hy : y < b
    · rw [dg_small hx, dg_small hy]
      have := hf x y hx hy
      by_cases h : x < y
      · have h1 := this.2 h
        simp [slx, Op.bytesLess, h, h1]
      · have h1 : ¬ f x < f y := fun h' => h (this.1 h')
        simp [slx, Op.bytesLess, h, h1]
    · have hl : (dg b y).length = (dg b (y / b)).length + 1 := by rw [dg_big hb hy]; simp
      have := dg_pos b (y / b)
      have hxl : (dg b x).length = 1 := by rw [dg_small hx]; rfl
      have h : x < y := by omega
      simp [slx, hl, hxl, h, this]
    · have hl : (dg b x).length = (dg b (x / b)).length + 1 := by rw [dg_big hb hx]; simp
      have := dg_pos b (x / b)
      have hyl : (dg b y).length = 1 := by rw [dg_small hy]; rfl
      have h : ¬ x < y := by omega
      have h2 : ¬ (dg b (x / b)).length = 0 := by omega
      simp [slx, hl, hyl, h, h2]
    · have ex := dg_big hb hx
      have ey := dg_big hb hy
      rw [ex, ey, List.map_append, List.map_append]
      show slx (_ ++ [f (x % b)]) (_ ++ [f (y % b)]) = _
      rw [slx_snoc, ih (x / b) (Nat.div_lt_self (by omega) (by omega)) (y / b)]
      have hm := hf (x % b) (y % b) (Nat.mod_lt _ (by omega)) (Nat.mod_lt _ (by omega))
      have dx := Nat.div_add_mod x b
      have dy := Nat.div_add_mod y b
      have mx := Nat.mod_lt x (by omega : b > 0)
      have my := Nat.mod_lt y (by omega : b > 0)
      rw [Bool.eq_iff_iff]
      simp only [Bool.or_eq_true, Bool.and_eq_true, decide_eq_true_eq, beq_iff_eq]
      rw [hm]
      constructor
      · rintro (h | ⟨h, h'⟩)
        · have : b * (x / b) + b ≤ b * (y / b) := by rw [← Nat.mul_succ]; exact Nat.mul_le_mul_left b h
          omega
        · have := map_inj b hb f hf _ _ h
          rw [this] at dx
          omega
      · intro h
        rcases Nat.lt_trichotomy (x / b) (y / b) with h1 | h1 | h1
        · exact .inl h1
        · right
          refine ⟨by rw [h1], ?_⟩
          rw [h1] at dx
          omega
        · have : b * (y / b) + b ≤ b * (x / b) := by rw [← Nat.mul_succ]; exact Nat.mul_le_mul_left b h1
          omega

include hg

/-- Rows whose last digit is told otherwise. -/
theorem slx_mark (x y : Nat) : slx ((if x < b then [] else (dg b (x / b)).map f) ++ [g (x % b)]) ((if y < b then [] else (dg b (y / b)).map f) ++ [g (y % b)]) = decide (x < y) := by
  rw [slx_snoc]
  have hm := hg (x % b) (y % b) (Nat.mod_lt _ (by omega)) (Nat.mod_lt _ (by omega))
  have dx := Nat.div_add_mod x b
  have dy := Nat.div_add_mod y b
  have mx := Nat.mod_lt x (by omega : b > 0)
  have my := Nat.mod_lt y (by omega : b > 0)
  rw [Bool.eq_iff_iff]
  simp only [Bool.or_eq_true, Bool.and_eq_true, decide_eq_true_eq, beq_iff_eq]
  rw [hm]
  by_cases hx : x < b <;> by_cases hy : y < b
  · rw [if_pos hx, if_pos hy, Nat.mod_eq_of_lt hx, Nat.mod_eq_of_lt hy]
    simp [slx, Op.bytesLess]
  · rw [if_pos hx, if_neg hy]
    have := dg_pos b (y / b)
    have h : x < y := by omega
    simp [slx, h, this]
  · rw [if_neg hx, if_pos hy]
    have := dg_pos b (x / b)
    have h : ¬ x < y := by omega
    have h2 : dg b (x / b) ≠ [] := fun e => by rw [e] at this; simp at this
    simp [slx, h, h2, Op.bytesLess]
  · rw [if_neg hx, if_neg hy, slx_dg b hb f hf]
    simp only [decide_eq_true_eq]
    constructor
    · rintro (h | ⟨h, h'⟩)
      · have : b * (x / b) + b ≤ b * (y / b) := by rw [← Nat.mul_succ]; exact Nat.mul_le_mul_left b h
        omega
      · have := map_inj b hb f hf _ _ h
        rw [this] at dx
        omega
    · intro h
      rcases Nat.lt_trichotomy (x / b) (y / b) with h1 | h1 | h1
      · exact .inl h1
      · right
        refine ⟨by rw [h1], ?_⟩
        rw [h1] at dx
        omega
      · have : b * (y / b) + b ≤ b * (x / b) := by rw [← Nat.mul_succ]; exact Nat.mul_le_mul_left b h1
        omega
end

theorem ofNat_lt (a x y : Nat) (hx : x + a < 256) (hy : y + a < 256) : (UInt8.ofNat (x + a) < UInt8.ofNat (y + a)) ↔ x < y := by
  rw [UInt8.lt_iff_toNat_lt, u8_ofNat _ hx, u8_ofNat _ hy]; omega

theorem putB_less (x y : Nat) : slx (putB x) (putB y) = decide (x < y) :=
  slx_mark 128 (by omega) (fun d => UInt8.ofNat (d + 128)) (fun d => UInt8.ofNat d) (fun x y hx hy => ofNat_lt 128 x y (by omega) (by omega)) (fun x y hx hy => ofNat_lt 0 x y (by omega) (by omega)) x y
theorem decB_less (x y : Nat) : slx (decB x) (decB y) = decide (x < y) :=
  slx_dg 10 (by omega) (fun d => UInt8.ofNat (d + 48)) (fun x y hx hy => ofNat_lt 48 x y (by omega) (by omega)) x y
theorem putB_inj (x y : Nat) (h : putB x = putB y) : x = y := by
  have h1 := putB_less x y
  have h2 := putB_less y x
  rw [h] at h1 h2
  rw [h1] at h2
  have := decide_eq_decide.1 h2
  omega
theorem decB_inj (x y : Nat) (h : decB x = decB y) : x = y :=
  map_inj 10 (by omega) (fun d => UInt8.ofNat (d + 48)) (fun x y hx hy => ofNat_lt 48 x y (by omega) (by omega)) x y h

theorem dg_head' (b : Nat) (hb : 2 ≤ b) : ∀ n : Nat, 0 < n → ∃ d r, dg b n = d :: r ∧ d ≠ 0 := by
  intro n
  induction n using Nat.strongRecOn with
  | ind n ih =>
    intro hn
    rw [dg]
    by_cases h : b < 2 ∨ n < b
    · rw [dif_pos h]; exact ⟨n, [], rfl, by omega⟩
    · rw [dif_neg h]
      obtain ⟨d, r, e, hd⟩ := ih (n / b) (Nat.div_lt_self (by omega) (by omega)) (Nat.div_pos (by omega) (by omega))
      exact ⟨d, r ++ [n % b], by rw [e]; rfl, hd⟩

/-- A text of its bytes. -/
def bs (l : List UInt8) : ByteArray := ⟨l.toArray⟩
theorem bs_list (l : List UInt8) : (bs l).toList = l := by rw [ByteArray.toList_eq]; simp [bs]
theorem bs_size (l : List UInt8) : (bs l).size = l.length := by simp [bs, ByteArray.size]
theorem bs_inj {a b : List UInt8} (h : bs a = bs b) : a = b := by rw [← bs_list a, ← bs_list b, h]
theorem bs_of (s : ByteArray) : bs s.data.toList = s := by cases s; simp [bs]
theorem bs_data (l : List UInt8) : (bs l).data.toList = l := by simp [bs]

theorem dg_len (b : Nat) (hb : 2 ≤ b) : ∀ n, (dg b n).length ≤ n + 1 := by
  intro n
  induction n using Nat.strongRecOn with
  | ind n ih =>
    by_cases h : n < b
    · rw [dg_small h]; simp
    · have := ih (n / b) (Nat.div_lt_self (by omega) (by omega))
      have h2 : n / b < n := Nat.div_lt_self (by omega) (by omega)
      rw [dg_big hb h, List.length_append]; simp; omega
theorem decB_len (x : Nat) (hx : x ≤ 1099511627776) : (decB x).length ≤ 140737488355328 := by
  have := dg_len 10 (by omega) x
  unfold decB; rw [List.length_map]; omega
theorem putB_len (x : Nat) (hx : x ≤ 1099511627776) : (putB x).length ≤ 140737488355328 := by
  have := dg_len 128 (by omega) (x / 128)
  unfold putB
  split <;> simp <;> omega
end Go.Proofs.Ytpbobmiajjgekaa

/- Numbers of their digits, the highest first: plain mathematics. -/
namespace Go.Proofs.Ytpbobmiajjgekaa
set_option linter.unusedVariables false
set_option maxRecDepth 100000
set_option linter.unusedSimpArgs false

theorem numS_no {b : Nat} {st : Nat → Nat × Bool × Bool} {f k n : Nat} (h : (st k).2.2 = false) : numS b st (f + 1) k n = none := by
  simp [numS, h]
theorem numS_last {b : Nat} {st : Nat → Nat × Bool × Bool} {f k n d : Nat} (h : st k = (d, true, true)) (hm : n * b + d ≤ 1099511627776) : numS b st (f + 1) k n = some (n * b + d, k + 1) := by
  simp [numS, h]; omega
theorem numS_more {b : Nat} {st : Nat → Nat × Bool × Bool} {f k n d : Nat} (h : st k = (d, false, true)) (hm : n * b + d ≤ 1099511627776) (h0 : n * b + d ≠ 0) : numS b st (f + 1) k n = numS b st f (k + 1) (n * b + d) := by
  simp only [numS, h]
  rw [if_neg (by simp), if_neg (by rintro (h1 | ⟨h1, _⟩); omega; exact h0 h1), if_neg (by simp)]

theorem numS_big' {b : Nat} {st : Nat → Nat × Bool × Bool} {f k n d : Nat} {last : Bool} (h : st k = (d, last, true)) (hm : 1099511627776 < n * b + d) : numS b st (f + 1) k n = none := by
  simp only [numS, h]
  rw [if_neg (by simp), if_pos (.inl hm)]
theorem numS_zero' {b : Nat} {st : Nat → Nat × Bool × Bool} {f k n d : Nat} (h : st k = (d, false, true)) (hm : n * b + d = 0) : numS b st (f + 1) k n = none := by
  simp [numS, h, hm]

/-- What digits come to. -/
def fold (b n : Nat) (ds : List Nat) : Nat := ds.foldl (fun n d => n * b + d) n
theorem fold_le (b : Nat) (hb : 1 ≤ b) : ∀ (ds : List Nat) (n : Nat), n ≤ fold b n ds := by
  intro ds
  induction ds with
  | nil => intro n; exact Nat.le_refl _
  | cons d ds ih =>
    intro n
    have h1 := ih (n * b + d)
    have h2 : n ≤ n * b := Nat.le_mul_of_pos_right n hb
    exact Nat.le_trans (by omega) h1
theorem fold_snoc (b n : Nat) (ds : List Nat) (d : Nat) : fold b n (ds ++ [d]) = fold b n ds * b + d := by simp [fold]
theorem fold_dg (b : Nat) (hb : 2 ≤ b) : ∀ n, fold b 0 (dg b n) = n := by
  intro n
  induction n using Nat.strongRecOn with
  | ind n ih =>
    by_cases h : n < b
    · rw [dg_small h]; simp [fold]
    · rw [dg_big hb h, fold_snoc, ih (n / b) (Nat.div_lt_self (by omega) (by omega))]
      have := Nat.div_add_mod n b
      rw [Nat.mul_comm]; omega

theorem numS_front {b : Nat} (hb : 1 ≤ b) {st : Nat → Nat × Bool × Bool} : ∀ (ds : List Nat) (f k n : Nat), (∀ i, (h : i < ds.length) → st (k + i) = (ds[i], false, true)) → fold b n ds ≤ 1099511627776 →
    (∀ d r, ds = d :: r → n * b + d ≠ 0) → numS b st (f + ds.length) k n = numS b st f (k + ds.length) (fold b n ds) := by
  intro ds
  induction ds with
  | nil => intro f k n _ _ _; rfl
  | cons d ds ih =>
    intro f k n hst hle h0
    have hs0 := hst 0 (by simp)
    have hle2 : n * b + d ≤ 1099511627776 := Nat.le_trans (fold_le b hb ds _) hle
    have hne := h0 d ds rfl
    have e : f + (d :: ds).length = (f + ds.length) + 1 := by simp; omega
    rw [e, numS_more (by simpa using hs0) hle2 hne, ih f (k + 1) (n * b + d)]
    · have e2 : k + 1 + ds.length = k + (d :: ds).length := by simp; omega
      rw [e2]; rfl
    · intro i hi
      have := hst (i + 1) (by simp; omega)
      have e3 : k + (i + 1) = k + 1 + i := by omega
      rw [e3] at this
      simpa using this
    · exact hle
    · intro d' r _
      have : 1 * b ≤ (n * b + d) * b := Nat.mul_le_mul_right b (by omega)
      omega

theorem fold_pos {b n d : Nat} {r : List Nat} (e : dg b n = d :: r) (hb : 2 ≤ b) (hn : 0 < n) : d ≠ 0 := by
  obtain ⟨d', r', e', h⟩ := dg_head' b hb n hn
  rw [e] at e'
  injection e' with e1 _
  rw [e1]; exact h

def hiD (b n : Nat) : List Nat := if n < b then [] else dg b (n / b)
theorem hiD_lt (b : Nat) (hb : 2 ≤ b) (n d : Nat) (h : d ∈ hiD b n) : d < b := by
  unfold hiD at h
  by_cases hn : n < b
  · simp [hn] at h
  · rw [if_neg hn] at h
    exact dg_lt b hb _ d h
theorem hiD_fold (b : Nat) (hb : 2 ≤ b) (n : Nat) : fold b 0 (hiD b n) = n / b := by
  unfold hiD
  by_cases hn : n < b
  · simp [hn, fold, Nat.div_eq_of_lt hn]
  · rw [if_neg hn, fold_dg b hb]
theorem hiD_head (b : Nat) (hb : 2 ≤ b) (n d : Nat) (r : List Nat) (e : hiD b n = d :: r) : d ≠ 0 := by
  unfold hiD at e
  by_cases hn : n < b
  · simp [hn] at e
  · rw [if_neg hn] at e
    exact fold_pos e hb (Nat.div_pos (by omega) (by omega))

theorem dg_step (b n d : Nat) (hb : 2 ≤ b) (hd : d < b) (hn : 1 ≤ n) : dg b (n * b + d) = dg b n ++ [d] := by
  have h1 : 1 * b ≤ n * b := Nat.mul_le_mul_right b hn
  have h2 : (n * b + d) / b = n := by rw [Nat.mul_comm, Nat.mul_add_div (by omega), Nat.div_eq_of_lt hd]; omega
  have h3 : (n * b + d) % b = d := by rw [Nat.mul_comm, Nat.mul_add_mod]; exact Nat.mod_eq_of_lt hd
  rw [dg_big hb (by omega), h2, h3]

theorem ofNat_toNat_eq (c : UInt8) (d : Nat) (h : c.toNat = d) : c = UInt8.ofNat d := by rw [← h]; simp

end Go.Proofs.Ytpbobmiajjgekaa
