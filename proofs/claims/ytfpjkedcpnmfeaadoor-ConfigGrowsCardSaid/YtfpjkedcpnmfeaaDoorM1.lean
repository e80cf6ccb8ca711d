/- Base, Hmf, Numb, RdrS: texts of this seat, one behind the other. -/
import Derived.WalkKit
import Derived.WalkSpells
import Derived.WalkLawsBesides
import Derived.Lib.Hide
import Derived.Handy
import Derived.Laws.BytesArg
import Derived.Laws.EntriesVeiled
import Derived.Test.YtfpjkedcpnmfeaaDoorRows
/- Words for memory that all texts of this seat use: a block that is known whole, bytes that a slice reads as. Nothing of the program is named here. -/
namespace Go.Proofs.YtfpjkedcpnmfeaaDoor
set_option linter.unusedVariables false
set_option linter.unusedSimpArgs false
open Go.RowKit

/-- One byte as a value. -/
abbrev u8 (c : UInt8) : Value := .int .u8 (c.toNat : Int)

/-- Block g is the cells cs of type t, none of them frozen. -/
def Bk (w : World) (g : Nat) (t : TypeId) (cs : Array Value) : Prop := w.heap[g]? = some (.cells cs t (0, 0))

theorem Bk.lt {w : World} {g : Nat} {t : TypeId} {cs : Array Value} (h : Bk w g t cs) : g < w.heap.size := lt_of_block h
theorem Bk.cell {w : World} {g : Nat} {t : TypeId} {cs : Array Value} (h : Bk w g t cs) (i : Nat) : w.cell? ⟨g, i, none⟩ = cs[i]? := cell_of_row w g i cs t (0, 0) h
theorem Bk.frozen {w : World} {g : Nat} {t : TypeId} {cs : Array Value} (h : Bk w g t cs) (i : Nat) : w.frozen? ⟨g, i, none⟩ = false := frozen_of_row w g i cs t h
theorem Bk.new (w : World) (t : TypeId) (cs : Array Value) : Bk (w.alloc (.cells cs t)) w.heap.size t cs := heap_alloc_new w _
theorem Bk.here {w : World} {t : TypeId} {cs : Array Value} {n : Nat} (h : n = w.heap.size) : Bk (w.alloc (.cells cs t)) n t cs := by subst h; exact Bk.new w t cs
theorem Bk.drewN {w : World} {g : Nat} {t : TypeId} {cs : Array Value} (h : Bk w g t cs) (n : Nat) : Bk (w.drewN n) g t cs := h
theorem Bk.drew {w : World} {g : Nat} {t : TypeId} {cs : Array Value} (h : Bk w g t cs) : Bk w.drew g t cs := h
theorem Bk.alloc {w : World} {g : Nat} {t : TypeId} {cs : Array Value} (h : Bk w g t cs) (o : Obj) : Bk (w.alloc o) g t cs := (Below.heap_alloc w o g h.lt).trans h
theorem Bk.set {w : World} {g : Nat} {t : TypeId} {cs : Array Value} (h : Bk w g t cs) (i : Nat) (u : Value) : Bk (w.setCell ⟨g, i, none⟩ u) g t (cs.setIfInBounds i u) :=
  heap_setCell_same w g i cs t u h
theorem Bk.far {w : World} {g : Nat} {t : TypeId} {cs : Array Value} (h : Bk w g t cs) {p : Addr} (hp : g ≠ p.block) (u : Value) : Bk (w.setCell p u) g t cs := (heap_setCell_other w p g u hp).trans h
theorem Bk.below {w w' : World} {B g : Nat} {t : TypeId} {cs : Array Value} (h : Bk w g t cs) (hb : Below B w w') (hg : g < B) : Bk w' g t cs := (hb.block g hg).trans h

/-- make([]byte, n): the world behind it written out. -/
theorem mk_bytes {P : Program} (w : World) (t e : TypeId) (ht : P.underlying t = some (.slice e)) (hi : (P.info? e).map (fun i => (i.zero, i.size, i.bytes)) = some (some (.int .u8 0), 1, 1)) (n : Nat) (hn : n ≤ 140737488355328) (cs : Array Value) (hcs : cs = Array.replicate n (.int .u8 0)) (kl kc : IntKind := .i64) :
    (Instr.makeSlice t (.int kl (n : Int)) (.int kc (n : Int))).run P w = .ok (.slice (some ⟨w.heap.size, 0, none⟩) n n) (w.alloc (.cells cs e)) := by
  obtain ⟨i, hi1, hz, hs, hb⟩ := info_parts hi
  have h := run_make (P := P) w t e i (.int .u8 0) ht hi1 hz kl kc n n (by omega) (by omega) (by rw [hb]; omega) (by omega)
  rw [h]
  have e1 : madeCells #[Value.int .u8 0] n = cs := by
    rw [hcs]; apply Array.ext'; rw [toList_madeCells_one]; simp
  simp [hs, Value.cells, e1]

/-- Bytes as cells. -/
def bcells (l : List UInt8) : Array Value := (l.map u8).toArray
theorem bcells_size (l : List UInt8) : (bcells l).size = l.length := by simp [bcells]
theorem bcells_at (l : List UInt8) (i : Nat) (h : i < l.length) : (bcells l)[i]? = some (.int .u8 ((l[i]).toNat : Int)) := by simp [bcells, h]

/-- The slice at A reads as the bytes l, and lies below block B. -/
def Rb (w : World) (B : Nat) (A : Option Addr) (l : List UInt8) : Prop :=
  l = [] ∨ ∃ b o, A = some ⟨b, o, none⟩ ∧ b < B ∧ ∀ i, (h : i < l.length) → w.cell? ⟨b, o + i, none⟩ = some (.int .u8 ((l[i]).toNat : Int))

theorem Rb.nil (w : World) (B : Nat) (A : Option Addr) : Rb w B A [] := .inl rfl
theorem Rb.below {w w' : World} {B B' : Nat} {A : Option Addr} {l : List UInt8} (h : Rb w B A l) (hb : Below B' w w') (hB : B ≤ B') : Rb w' B A l := by
  rcases h with h | ⟨b, o, e, hlt, hc⟩
  · exact .inl h
  · exact .inr ⟨b, o, e, hlt, fun i hi => (hb.cell (p := ⟨b, o + i, none⟩) (by show b < B'; omega)).trans (hc i hi)⟩
theorem Rb.more {w : World} {B B' : Nat} {A : Option Addr} {l : List UInt8} (h : Rb w B A l) (hB : B ≤ B') : Rb w B' A l := by
  rcases h with h | ⟨b, o, e, hlt, hc⟩
  · exact .inl h
  · exact .inr ⟨b, o, e, by omega, hc⟩
theorem Rb.bk {w : World} {g : Nat} {t : TypeId} {l : List UInt8} (h : Bk w g t (bcells l)) : Rb w (g + 1) (some ⟨g, 0, none⟩) l :=
  .inr ⟨g, 0, rfl, by omega, fun i hi => by rw [h.cell, Nat.zero_add, bcells_at l i hi]⟩
theorem Rb.new (w : World) (t : TypeId) (l : List UInt8) : Rb (w.alloc (.cells (bcells l) t)) (w.heap.size + 1) (some ⟨w.heap.size, 0, none⟩) l := Rb.bk (Bk.new w t _)

theorem strOfNums_u8 (l : List UInt8) : strOfNums (l.map fun c => (c.toNat : Int)) = ⟨l.toArray⟩ := by
  have h := strOfNums_data (l.map fun c => (c.toNat : Int))
  have e : (strOfNums (l.map fun c => (c.toNat : Int))).data = l.toArray := by
    apply Array.ext'
    rw [h, List.map_map]
    have e0 : ((fun n : Int => UInt8.ofNat n.toNat) ∘ fun c : UInt8 => (c.toNat : Int)) = id := by funext c; simp
    rw [e0, List.map_id]
  cases hs : strOfNums (l.map fun c => (c.toNat : Int)) with
  | mk d => rw [hs] at e; simp at e; rw [e]

/-- string(b). -/
theorem str_of {P : Program} {w : World} {B : Nat} {A : Option Addr} {l : List UInt8} (h : Rb w B A l) (src e dst : TypeId) (hs : P.underlying src = some (.slice e)) (he : P.underlying e = some (.int .u8)) (hd : P.underlying dst = some .string) (n cap : Nat) (hn : l.length = n) :
    (convert src dst (.slice A n cap)).run P w = .ok (.string ⟨l.toArray⟩) w := by
  subst hn
  by_cases h0 : l = []
  · subst h0
    cases A with
    | none => exact run_convert_bytes_nil w src e hs he 0 cap dst hd
    | some a =>
      rw [run_convert_bytes_string w src dst e _ _ _ hs he hd]
      have hl := run_loadCells_list (P := P) w a [] (fun j v hj => by simp at hj)
      exact (run_bytesToString (P := P) w a 0 cap [] (by simpa using hl)).trans rfl
  · rcases h with h | ⟨b, o, rfl, _, hc⟩
    · exact absurd h h0
    · have := run_convert_bytes_arg (P := P) w src e hs he b o l.length cap (l.map fun c => (c.toNat : Int)) (by simp) (fun i hi => by
        rw [hc i hi]; simp [List.getD, hi]) dst hd
      rw [this, strOfNums_u8]

end Go.Proofs.YtfpjkedcpnmfeaaDoor

/- A function value is made. Nothing of the program is named here. -/
namespace Go.Proofs.YtfpjkedcpnmfeaaDoor
set_option linter.unusedVariables false
set_option linter.unusedSimpArgs false
open Go.RowKit

theorem hmf {P : Program} : ∀ (fn : Fn) (first cap : Array Value) (w : World), (Instr.makeFunc fn first cap).run P w = .ok (.func fn first cap) w := fun _ _ _ _ => rfl

end Go.Proofs.YtfpjkedcpnmfeaaDoor

/- num.number over whatever tells its digits. -/
namespace Go.Proofs.YtfpjkedcpnmfeaaDoor
set_option linter.unusedVariables false
set_option linter.unusedSimpArgs false
open Go.RowKit

/-- What number reckons of digits that are told: of each the digit, whether it is the last one, whether it is one at all. -/
def numS (b : Nat) (st : Nat → Nat × Bool × Bool) : Nat → Nat → Nat → Option (Nat × Nat)
  | 0, _, _ => none
  | f + 1, k, n =>
    let d := st k
    if d.2.2 = false then none
    else if 1099511627776 < n * b + d.1 ∨ (n * b + d.1 = 0 ∧ d.2.1 = false) then none
    else if d.2.1 = true then some (n * b + d.1, k + 1)
    else numS b st f (k + 1) (n * b + d.1)

/-- How number returns it. -/
def numE : Option (Nat × Nat) → Ending
  | some (n, k) => .returned (.tuple #[.int .i64 n, .int .i64 k, .bool true])
  | none => .returned (.tuple #[.int .i64 0, .int .i64 0, .bool false])

/-- A call of a function with a body goes into it. -/
theorem goes_in {P : Program} {f : FuncId} {fn : Func} {c : Code} (h1 : P.funcs[f]? = some fn) (h2 : (fn.name == "runtime.NumGoroutine") = false) (h3 : fn.body = some c) (args : Array Value) (w : World) :
    (callFunc f args).run P w = .ok (.enter f args) w := by
  have hn : fn.name ≠ "runtime.NumGoroutine" := by simpa using h2
  simp [callFunc, h1, hn, h3, mark]

set_option maxHeartbeats 1000000 in
theorem number_ok (b : Nat) (F : Nat) (cap : Array Value) (B len : Nat) (Inv : Nat → World → Prop) (st : Nat → Nat × Bool × Bool) (hb : 1 ≤ b) (hb2 : b ≤ 128)
    (hst : ∀ k, (st k).2.2 = true → k < len ∧ (st k).1 < 256) (hlen : len ≤ 140737488355328)
    (hin : ∀ w, (callFunc F cap).run Tryd.prog w = .ok (.enter F cap) w)
    (hstep : ∀ k w, k ≤ len → Inv k w → Calls Tryd.prog F cap w fun e w' => ∃ di lb, e = .returned (.tuple #[.int .i64 di, .bool lb, .bool (st k).2.2]) ∧ ((st k).2.2 = true → di = ((st k).1 : Int) ∧ lb = (st k).2.1 ∧ Inv (k + 1) w') ∧ Below B w w')
    (w : World) (h0 : Inv 0 w) :
    Calls Tryd.prog 69 #[.int .i64 b, .func (.func F) #[] cap] w fun e w' => e = numE (numS b st (len + 1) 0 0) ∧ Below B w w' := by
  have HST := Lib.hid hstep
  have HS2 := Lib.hid hst
  clear hstep hst
  obtain ⟨R, hR⟩ : ∃ R, numS b st (len + 1) 0 0 = R := ⟨_, rfl⟩
  rw [hR]
  have HR := Lib.hid hR
  clear hR
  go_enter Tryd.func69, Tryd.ntmps69
  go_wp2_with fail
  go_loopw [7, 8] (fun v7 v8 wr => ∃ n k : Nat, v7 = .int .i64 n ∧ v8 = .int .i64 ((k : Int) + 1) ∧ n ≤ 1099511627776 ∧ k ≤ len ∧ Hid (Inv k wr) ∧ Below B w wr ∧ Hid (numS b st (len + 1 - k) k n = R)) (fun _ v8 _ => len + 1 - (intOf v8).toNat)
  case atStart => exact ⟨0, 0, rfl, rfl, by omega, by omega, Lib.hid h0, Below.refl _ _, HR⟩
  case round =>
    obtain ⟨n, k, rfl, rfl, hn, hk, HI, hbel, HE⟩ := hrel
    have hcall := HST.out k wr hk HI.out
    have hs2 := HS2.out k
    obtain ⟨f, hf0⟩ : ∃ f, f = len - k := ⟨_, rfl⟩
    have hf : len + 1 - k = f + 1 := by omega
    have HF := Lib.hid hf0
    have hE := HE.out
    rw [hf, numS] at hE
    obtain ⟨d, last, is, hd⟩ : ∃ d last is, st k = (d, last, is) := ⟨_, _, _, rfl⟩
    rw [hd] at hcall hE hs2
    simp only [] at hcall hE hs2
    have hmul : ((n : Int) * (b : Int)) = ((n * b : Nat) : Int) := by simp
    have m1 : (0 : Int) ≤ (n : Int) * (b : Int) := by rw [hmul]; omega
    have m0 : n * b ≤ 1099511627776 * 128 := Nat.mul_le_mul hn hb2
    have m2 : (n : Int) * (b : Int) ≤ 140737488355328 := by rw [hmul]; omega
    have HC := Lib.hid hcall
    have HE2 := Lib.hid hE
    have HS3 := Lib.hid hs2
    have HM := Lib.hid hmul
    clear hcall hE hs2 hmul HST HS2 HE HR hd HI hf hf0 h0
    by_cases his : is = true
    · subst his
      obtain ⟨hkl, hdl⟩ := HS3.out rfl
      clear HS3
      replace HC := Lib.hid (HC.out.mono (R' := fun e w' => e = .returned (.tuple #[.int .i64 (d : Int), .bool last, .bool true]) ∧ Inv (k + 1) w' ∧ Below B wr w') (fun e w' ⟨di, lb, he, hI, hB⟩ => by
        obtain ⟨rfl, rfl, hI2⟩ := hI rfl
        exact ⟨he, hI2, hB⟩))
      have HM' := HM.out
      clear HM
      by_cases hbig : (1099511627776 : Int) < (n : Int) * (b : Int) + (d : Int)
      · have hR : R = none := by
          have := HE2.out
          rw [if_neg (by simp), if_pos (.inl (by omega))] at this
          exact this.symm
        clear HE2 HM'
        go_wp2_with (refine HC.out.mono ?_; rintro e w1 ⟨rfl, hI, hB⟩)
        go_ret3
        exact ⟨by rw [hR]; rfl, hbel.trans hB⟩
      · by_cases hz : (n : Int) * (b : Int) + (d : Int) = 0 ∧ last = false
        · obtain ⟨hz, rfl⟩ := hz
          have hR : R = none := by
            have := HE2.out
            rw [if_neg (by simp), if_pos (.inr ⟨by omega, rfl⟩)] at this
            exact this.symm
          have hz2 : (((n : Int) * (b : Int) + (d : Int)) == 0) = true := by simp [hz]
          clear HE2 HM' hz
          go_wp2_with (refine HC.out.mono ?_; rintro e w1 ⟨rfl, hI, hB⟩)
          go_ret3
          exact ⟨by rw [hR]; rfl, hbel.trans hB⟩
        · cases last with
          | true =>
            have hR : R = some (n * b + d, k + 1) := by
              have := HE2.out
              rw [if_neg (by simp), if_neg (by rintro (h | ⟨h, h'⟩) <;> first | omega | cases h'), if_pos rfl] at this
              exact this.symm
            have hz2 : Hid ((n : Int) * (b : Int) + (d : Int) = ((n * b + d : Nat) : Int)) := Lib.hid (by simp)
            clear HE2 HM' hz
            by_cases hzz : (((n : Int) * (b : Int) + (d : Int)) == 0) = true
            · go_wp2_with (refine HC.out.mono ?_; rintro e w1 ⟨rfl, hI, hB⟩)
              go_ret3
              exact ⟨by rw [hR, numE, ← hz2.out]; rfl, hbel.trans hB⟩
            · have hzz : (((n : Int) * (b : Int) + (d : Int)) == 0) = false := by simpa using hzz
              go_wp2_with (refine HC.out.mono ?_; rintro e w1 ⟨rfl, hI, hB⟩)
              go_ret3
              exact ⟨by rw [hR, numE, ← hz2.out]; rfl, hbel.trans hB⟩
          | false =>
            have hE3 := HE2.out
            rw [if_neg (by simp), if_neg (by rintro (h | ⟨h, h'⟩) <;> first | omega | exact hz ⟨by omega, rfl⟩), if_neg (by simp)] at hE3
            have HE3 := Lib.hid hE3
            have hz2 : (((n : Int) * (b : Int) + (d : Int)) == 0) = false := by
              have : ¬ ((n : Int) * (b : Int) + (d : Int) = 0) := fun h => hz ⟨h, rfl⟩
              simpa using this
            have hz3 : Hid ((n : Int) * (b : Int) + (d : Int) = ((n * b + d : Nat) : Int)) := Lib.hid (by simp)
            clear HE2 HM' hz hE3
            go_wp2_with (refine HC.out.mono ?_; rintro e w1 ⟨rfl, hI, hB⟩)
            go_roundw
            case rel => exact ⟨n * b + d, k + 1, by rw [hz3.out], by go_num, by have := hz3.out; omega, by omega, Lib.hid hI, hbel.trans hB, Lib.hid (by rw [← HE3.out]; congr 1; have := HF.out; omega)⟩
            case measure => simp [intOf]; omega
    · have his : is = false := by simpa using his
      subst his
      have hR := HE2.out
      rw [if_pos rfl] at hR
      have hR := hR.symm
      clear HE2 HS3 HM
      go_wp2_with (refine HC.out.mono ?_; rintro e w1 ⟨di, lb, rfl, hI, hB⟩)
      go_ret3
      exact ⟨by rw [hR]; rfl, hbel.trans hB⟩
end Go.Proofs.YtfpjkedcpnmfeaaDoor

/- num.reader over a text: what it makes, and what each call of that tells. -/
namespace Go.Proofs.YtfpjkedcpnmfeaaDoor
set_option linter.unusedVariables false
set_option linter.unusedSimpArgs false
open Go.RowKit

/-- The same over a text. -/
structure RdS (w : World) (g : Nat) (s : ByteArray) (k : Nat) : Prop where
  pos : Bk w (g + 1) 3 #[.int .i64 k]
  from_ : Bk w g 9 #[.string s]
  size : s.size ≤ 140737488355328
  le : k ≤ s.size

set_option maxHeartbeats 400000 in
theorem readerS_ok (s : ByteArray) (w : World) :
    Calls Tryd.prog 68 #[.string s] w fun e w' => e = .returned (.func (.func 79) #[] #[.pointer (some ⟨w.heap.size + 1, 0, none⟩), .pointer (some ⟨w.heap.size, 0, none⟩)]) ∧
      w' = (w.alloc (.cells #[.string s] 9)).alloc (.cells #[.int .i64 0] 3) := by
  have h := @hmf Tryd.prog
  go_enter Tryd.func68, Tryd.ntmps68
  go_wp2
  go_ret
  exact ⟨rfl, rfl⟩

theorem RdS.start {w : World} {s : ByteArray} (hl : s.size ≤ 140737488355328) :
    RdS ((w.alloc (.cells #[.string s] 9)).alloc (.cells #[.int .i64 0] 3)) w.heap.size s 0 := by
  have b1 : Bk (w.alloc (.cells #[.string s] 9)) w.heap.size 9 _ := Bk.new w _ _
  have b2 : Bk ((w.alloc (.cells #[.string s] 9)).alloc (.cells #[.int .i64 0] 3)) (w.heap.size + 1) 3 #[.int .i64 0] := by
    have := Bk.new (w.alloc (.cells #[.string s] 9)) 3 #[.int .i64 0]
    simpa using this
  exact ⟨b2, b1.alloc _, hl, by omega⟩

theorem RdS.step {w : World} {g k : Nat} {s : ByteArray} (h : RdS w g s k) (hk : k < s.size) : RdS (w.setCell ⟨g + 1, 0, none⟩ (.int .i64 ((k + 1 : Nat) : Int))) g s (k + 1) :=
  ⟨h.pos.set 0 _, h.from_.far (by show g ≠ g + 1; omega) _, h.size, by omega⟩

theorem RdS.below {w w' : World} {g k B : Nat} {s : ByteArray} (h : RdS w g s k) (hb : Below B w w') (hB : g + 2 ≤ B) : RdS w' g s k :=
  ⟨h.pos.below hb (by omega), h.from_.below hb (by omega), h.size, h.le⟩

set_option maxHeartbeats 400000 in
theorem readS_more (g k : Nat) (s : ByteArray) (w : World) (h : RdS w g s k) (hk : k < s.size) :
    Calls Tryd.prog 79 #[.pointer (some ⟨g + 1, 0, none⟩), .pointer (some ⟨g, 0, none⟩)] w fun e w' =>
      e = .returned (.tuple #[.int .u8 ((s[k]).toNat : Int), .bool true]) ∧ w' = w.setCell ⟨g + 1, 0, none⟩ (.int .i64 ((k + 1 : Nat) : Int)) := by
  have hsz := h.size
  have c1 : w.cell? ⟨g + 1, 0, none⟩ = some (.int .i64 k) := by rw [h.pos.cell]; rfl
  have c2 : w.cell? ⟨g, 0, none⟩ = some (.string s) := by rw [h.from_.cell]; rfl
  have f1 : w.frozen? ⟨g + 1, 0, none⟩ = false := h.pos.frozen 0
  have hne : ((k : Int) == (s.size : Int)) = false := by simp; omega
  clear h
  go_enter Tryd.func79, Tryd.ntmps79
  go_wp2
  go_ret2
  exact ⟨rfl, by go_num⟩

set_option maxHeartbeats 400000 in
theorem readS_end (g k : Nat) (s : ByteArray) (w : World) (h : RdS w g s k) (hk : ¬ k < s.size) :
    Calls Tryd.prog 79 #[.pointer (some ⟨g + 1, 0, none⟩), .pointer (some ⟨g, 0, none⟩)] w fun e w' =>
      e = .returned (.tuple #[.int .u8 0, .bool false]) ∧ w = w' := by
  have hsz := h.size
  have hle := h.le
  have c1 : w.cell? ⟨g + 1, 0, none⟩ = some (.int .i64 k) := by rw [h.pos.cell]; rfl
  have c2 : w.cell? ⟨g, 0, none⟩ = some (.string s) := by rw [h.from_.cell]; rfl
  have hne : ((k : Int) == (s.size : Int)) = true := by simp; omega
  clear h
  go_enter Tryd.func79, Tryd.ntmps79
  go_wp2
  go_ret2
  exact ⟨rfl, rfl⟩

end Go.Proofs.YtfpjkedcpnmfeaaDoor
