/- HeldL, Base, Hmf, Numb, RdrS, Parse: texts of this seat, one behind the other. -/
import Derived.Deep.RegionHeld3
import Derived.WalkKit
import Derived.WalkSpells
import Derived.WalkLawsBesides
import Derived.Lib.Hide
import Derived.Handy
import Derived.Laws.BytesArg
import Derived.Laws.EntriesVeiled
import Derived.Test.YtekobdmlgbffnaaGreatDoorRows
import Derived.BigQuiet
import Derived.Deep.QuietTactic
/- Regions that draw their order, and whose last operation (all others wait to be ahead of it) writes what earlier ones read: the condition on worlds need not hold behind that one. The law's proof goes the way of the kit's own one (Derived/OrdersHeld), with a chain of operations more. Nothing of the program is named here. -/
namespace Go.Proofs.YtekobdmlgbffnaaGreatDoor
set_option linter.unusedVariables false
set_option maxRecDepth 100000
set_option linter.unusedSimpArgs false

section
variable {P : Program} {ops : Array Oper} {Q : Exit → Act → World → Prop} {md : Region.Mode} {S : World → Prop} {z : Nat}

def wpAnyL (P : Program) (md : Region.Mode) (ops : Array Oper) (Q : Exit → Act → World → Prop) (S : World → Prop) (z : Nat) : Nat → Array Bool → Act → World → Prop
  | 0, listed, a, w => Region.ready md ops listed = [] ∧ Q .normal a w
  | fuel + 1, listed, a, w =>
    (Region.ready md ops listed = [] → Q .normal a w) ∧
    ∀ i ∈ Region.ready md ops listed, wpOp P ops Q i (fun a' w' => (i ≠ z → S w') ∧ wpAnyL P md ops Q S z fuel (listed.setIfInBounds i true) a' w') a w

theorem wpAny_of_L : ∀ (fuel : Nat) (listed : Array Bool) (a : Act) (w : World), wpAnyL P md ops Q S z fuel listed a w → wpAny P md ops Q fuel listed a w
  | 0, _, _, _, h => h
  | fuel + 1, _, _, _, h => ⟨h.1, fun i hi => wpOp_mono (fun a' w' h' => wpAny_of_L fuel _ a' w' h'.2) (h.2 i hi)⟩

/-- Number z waits for i, by a chain of operations none of which has come up. -/
def chainB (md : Region.Mode) (ops : Array Oper) (listed : Array Bool) (i z : Nat) (cs : List Nat) : Bool :=
  cs.contains z && cs.all fun c => !(listed.getD c true) && (match ops[c]? with
    | some o => o.after.any fun e => Region.binds md e && (e.on == i || cs.contains e.on)
    | none => false)
structure Chain (md : Region.Mode) (ops : Array Oper) (listed : Array Bool) (i z : Nat) (cs : List Nat) : Prop where
  z : z ∈ cs
  un : ∀ c ∈ cs, listed.getD c true = false
  on : ∀ c ∈ cs, ∃ o, ops[c]? = some o ∧ ∃ e ∈ o.after, Region.binds md e = true ∧ (e.on = i ∨ e.on ∈ cs)
theorem Chain.of {listed : Array Bool} {i : Nat} {cs : List Nat} (h : chainB md ops listed i z cs = true) : Chain md ops listed i z cs := by
  unfold chainB at h
  rw [Bool.and_eq_true, List.all_eq_true] at h
  refine ⟨by simpa using h.1, fun c hc => ?_, fun c hc => ?_⟩
  · have := h.2 c hc
    rw [Bool.and_eq_true] at this
    simpa using this.1
  · have := h.2 c hc
    rw [Bool.and_eq_true] at this
    cases ho : ops[c]? with
    | none => rw [ho] at this; exact absurd this.2 (by simp)
    | some o =>
      rw [ho] at this
      have h3 := this.2
      dsimp only at h3
      rw [← Array.any_toList, List.any_eq_true] at h3
      obtain ⟨e, he, h2⟩ := h3
      have he : e ∈ o.after := by simpa using he
      rw [Bool.and_eq_true, Bool.or_eq_true] at h2
      exact ⟨o, rfl, e, he, h2.1, by simpa using h2.2⟩
theorem not_both {listed : Array Bool} {k : Nat} (h0 : listed.getD k true = false) (h1 : listed.getD k false = true) : False := by
  rcases Nat.lt_or_ge k listed.size with h' | h'
  · simp [h'] at h0 h1; rw [h0] at h1; cases h1
  · simp [Array.getElem?_eq_none h'] at h1
theorem Chain.not_ready {listed : Array Bool} {i j : Nat} {cs : List Nat} (h : Chain md ops listed i z cs) (hi : i ∈ Region.ready md ops listed) (hj : j ∈ Region.ready md ops listed) : j ∉ cs := fun hc => by
  obtain ⟨o, ho, e, he, hb, hon⟩ := h.on j hc
  obtain ⟨_, o', ho', hall⟩ := mem_ready.1 hj
  rw [ho] at ho'
  injection ho' with ho'
  subst ho'
  have h1 := hall e he hb
  rcases hon with hon | hon
  · rw [hon] at h1; exact not_both (mem_ready.1 hi).1 h1
  · exact not_both (h.un _ hon) h1
theorem Chain.next {listed : Array Bool} {i j : Nat} {cs : List Nat} (h : Chain md ops listed i z cs) (hj : j ∉ cs) : Chain md ops (listed.setIfInBounds j true) i z cs :=
  ⟨h.z, fun c hc => by rw [getD_set_ne true (fun e : j = c => hj (by rw [e]; exact hc))]; exact h.un c hc, h.on⟩

theorem wpAnyL_first {i : Nat} {oi : Oper} {v : Value} {cs : List Nat} (hi : ops[i]? = some oi) (hsel : ∀ (j : Nat) (o : Oper) cs b, ops[j]? = some o → o.op ≠ .select cs b)
    (hQ : ∀ c a w, Q (.panic c) (a.put oi.dst v) w → Q (.panic c) a w) :
    ∀ (fuel : Nat) (listed : Array Bool) (a : Act) (w : World),
      (∀ j oj, ops[j]? = some oj → j ≠ i → listed.getD j true = false → (∀ e ∈ oj.after, Region.binds md e = true → e.on ≠ i) → oi.apart ops oj = true) →
      i ∈ Region.ready md ops listed → Chain md ops listed i z cs → YieldsIf P ops S oi v a → S w →
      wpAnyL P md ops Q S z fuel (listed.setIfInBounds i true) (a.put oi.dst v) w → wpAnyL P md ops Q S z (fuel + 1) listed a w := by
  intro fuel
  induction fuel with
  | zero =>
    intro listed a w _ hr _ hy hS H
    refine ⟨fun h => (by rw [h] at hr; cases hr), fun j hj => ?_⟩
    by_cases hji : j = i
    · subst hji; exact hy.wpOp hi hS ⟨fun _ => hS, H⟩
    · have := ready_mono hj hji
      rw [H.1] at this
      cases this
  | succ fuel ih =>
    intro listed a w hfree hr hC hy hS H
    refine ⟨fun h => (by rw [h] at hr; cases hr), fun j hj => ?_⟩
    by_cases hji : j = i
    · subst hji; exact hy.wpOp hi hS ⟨fun _ => hS, H⟩
    · have h1 := H.2 j (ready_mono hj hji)
      obtain ⟨hjun, oj, hoj, hall⟩ := mem_ready.1 hj
      have hjc := hC.not_ready hr hj
      have hjz : j ≠ z := fun e => hjc (e ▸ hC.z)
      have hnot : ∀ e ∈ oj.after, Region.binds md e = true → e.on ≠ i := fun e he hb heq => by
        have h1 := hall e he hb
        rw [heq] at h1
        exact not_both (mem_ready.1 hr).1 h1
      have h2 := wpOp_putIf hoj (hfree j oj hoj hji hjun hnot) (fun cs b => hsel i oi cs b hi) (fun cs b => hsel j oj cs b hoj) hQ hy h1
      have hfree' : ∀ k ok, ops[k]? = some ok → k ≠ i → (listed.setIfInBounds j true).getD k true = false →
          (∀ e ∈ ok.after, Region.binds md e = true → e.on ≠ i) → oi.apart ops ok = true := fun k ok hk hki hun hno => by
        refine hfree k ok hk hki ?_ hno
        by_cases hjk : j = k
        · subst hjk; exact hjun
        · rw [getD_set_ne true hjk] at hun; exact hun
      refine wpOp_mono (fun a' w' h3 => ⟨h3.2.1, ih (listed.setIfInBounds j true) a' w' hfree' (ready_mono hr (Ne.symm hji)) (hC.next hjc) h3.1 (h3.2.1 hjz) ?_⟩) h2
      rw [Array.setIfInBounds_comm _ _ hji]
      exact h3.2.2

theorem takeL {i : Nat} (d : Option Tmp) (cs : List Nat) {oi : Oper} {v : Value} {fuel : Nat} {listed : Array Bool} {a : Act} {w : World} (hi : ops[i]? = some oi)
    (hd : oi.dst = d) (hs : Region.noSelect ops = true) (hf : Region.free md ops listed i = true) (hr : (Region.ready md ops listed).contains i = true) (hc : chainB md ops listed i z cs = true)
    (hQ : ∀ c a w, Q (.panic c) (a.put oi.dst v) w → Q (.panic c) a w) (hy : YieldsIf P ops S oi v a) (hS : S w)
    (h : wpAnyL P md ops Q S z fuel (listed.setIfInBounds i true) (a.put d v) w) : wpAnyL P md ops Q S z (fuel + 1) listed a w := by
  subst hd
  exact wpAnyL_first hi (Region.noSelect_spec hs) hQ fuel listed a w (Region.free_spec hi hf) (by simpa using hr) (Chain.of hc) hy hS h

def AllReadyL (P : Program) (md : Region.Mode) (ops : Array Oper) (Q : Exit → Act → World → Prop) (S : World → Prop) (z fuel : Nat) (listed : Array Bool) (a : Act) (w : World) (rs : List Nat) : Prop :=
  ∀ i ∈ rs, wpOp P ops Q i (fun a' w' => (i ≠ z → S w') ∧ wpAnyL P md ops Q S z fuel (listed.setIfInBounds i true) a' w') a w
theorem AllReadyL.nil {fuel : Nat} {listed : Array Bool} {a : Act} {w : World} : AllReadyL P md ops Q S z fuel listed a w [] := fun _ h => by cases h
theorem AllReadyL.cons {fuel : Nat} {listed : Array Bool} {a : Act} {w : World} {i : Nat} {o : Oper} {rs : List Nat} (ho : ops[i]? = some o)
    (h : ∀ K' : Act → World → Prop, Shut (∀ a w, S w → (S w → wpAnyL P md ops Q S z fuel (listed.setIfInBounds i true) a w) → K' a w) → if Region.wanted o (yielded ops a.tmps) = true then Oper.wp P o a w K' Q else K' (a.put o.dst undef) w)
    (hs : AllReadyL P md ops Q S z fuel listed a w rs) : AllReadyL P md ops Q S z fuel listed a w (i :: rs) := fun j hj => by
  rcases List.mem_cons.1 hj with rfl | hj
  · exact wpOp_step ho (fun K' hK => h K' (fun a w hS hW => hK a w ⟨fun _ => hS, hW hS⟩))
  · exact hs j hj
/-- The last one: nothing is to be shown behind it. -/
theorem AllReadyL.last {fuel : Nat} {listed : Array Bool} {a : Act} {w : World} {o : Oper} (ho : ops[z]? = some o)
    (h : ∀ K' : Act → World → Prop, Shut (∀ a w, wpAnyL P md ops Q S z fuel (listed.setIfInBounds z true) a w → K' a w) → if Region.wanted o (yielded ops a.tmps) = true then Oper.wp P o a w K' Q else K' (a.put o.dst undef) w) : AllReadyL P md ops Q S z fuel listed a w [z] := fun j hj => by
  rcases List.mem_cons.1 hj with rfl | hj
  · exact wpOp_step ho (fun K' hK => h K' (fun a w hW => hK a w ⟨fun e => absurd rfl e, hW⟩))
  · cases hj
theorem wpAnyL_ready {rs : List Nat} {fuel : Nat} {listed : Array Bool} {a : Act} {w : World} (hr : Region.ready md ops listed = rs) (hne : rs ≠ [])
    (h : AllReadyL P md ops Q S z fuel listed a w rs) : wpAnyL P md ops Q S z (fuel + 1) listed a w := ⟨fun h0 => absurd (hr ▸ h0) hne, hr ▸ h⟩
theorem wpAnyL_done {listed : Array Bool} {a : Act} {w : World} (hr : Region.ready md ops listed = []) (h : Q .normal a w) :
    ∀ fuel, wpAnyL P md ops Q S z fuel listed a w
  | 0 => ⟨hr, h⟩
  | _ + 1 => ⟨fun _ => h, by rw [hr]; simp⟩
theorem wp_region_L (z : Nat) {id : Nat} {a : Act} {w : World} (hm : P.follows .mixedOrders = true) (hS : S w.drew)
    (h : S w.drew → wpAnyL P .any ops Q S z ops.size (Array.replicate ops.size false) a w.drew) : (Code.region id ops true).wp P Q a w :=
  wp_region_any hm (wpAny_of_L _ _ _ _ (h hS))
end
end Go.Proofs.YtekobdmlgbffnaaGreatDoor

/- Words for memory that all texts of this seat use: a block that is known whole, bytes that a slice reads as. Nothing of the program is named here. -/
namespace Go.Proofs.YtekobdmlgbffnaaGreatDoor
set_option linter.unusedVariables false
set_option maxRecDepth 100000
set_option linter.unusedSimpArgs false
open Go.RowKit

/-- One byte as a value. -/
abbrev u8 (c : UInt8) : Value := .int .u8 (c.toNat : Int)

/-- Block g is the cells cs of type t, none of them frozen. -/
def Bk (w : World) (g : Nat) (t : TypeId) (cs : Array Value) : Prop := w.heap[g]? = some (.cells cs t (0, 0))

theorem Bk.lt {w : World} {g : Nat} {t : TypeId} {cs : Array Value} (h : Bk w g t cs) : g < w.heap.size := lt_of_block h
theorem Bk.cell {w : World} {g : Nat} {t : TypeId} {cs : Array Value} (h : Bk w g t cs) (i : Nat) : w.cell? ⟨g, i, none⟩ = cs[i]? := cell_of_row w g i cs t (0, 0) h
theorem Bk.frozen {w : World} {g : Nat} {t : TypeId} {cs : Array Value} (h : Bk w g t cs) (i : Nat) : w.frozen? ⟨g, i, none⟩ = false := frozen_of_row w g i cs t h
theorem Bk.new (w : World) (t : TypeId) (cs : Array Value) : Bk (w.alloc (.cells cs t)) w.heap.size t cs := heap_alloc_new w _
theorem Bk.here {w : World} {t : TypeId} {cs : Array Value} {n : Nat} (h : n = w.heap.size) : Bk (w.alloc (.cells cs t)) n t cs := by subst h; exact Bk.new w t cs
theorem Bk.drewN {w : World} {g : Nat} {t : TypeId} {cs : Array Value} (h : Bk w g t cs) (n : Nat) : Bk (w.drewN n) g t cs := h
theorem Bk.drew {w : World} {g : Nat} {t : TypeId} {cs : Array Value} (h : Bk w g t cs) : Bk w.drew g t cs := h
theorem Bk.alloc {w : World} {g : Nat} {t : TypeId} {cs : Array Value} (h : Bk w g t cs) (o : Obj) : Bk (w.alloc o) g t cs := (Below.heap_alloc w o g h.lt).trans h
theorem Bk.set {w : World} {g : Nat} {t : TypeId} {cs : Array Value} (h : Bk w g t cs) (i : Nat) (u : Value) : Bk (w.setCell ⟨g, i, none⟩ u) g t (cs.setIfInBounds i u) :=
  heap_setCell_same w g i cs t u h
theorem Bk.far {w : World} {g : Nat} {t : TypeId} {cs : Array Value} (h : Bk w g t cs) {p : Addr} (hp : g ≠ p.block) (u : Value) : Bk (w.setCell p u) g t cs := (heap_setCell_other w p g u hp).trans h
theorem Bk.below {w w' : World} {B g : Nat} {t : TypeId} {cs : Array Value} (h : Bk w g t cs) (hb : Below B w w') (hg : g < B) : Bk w' g t cs := (hb.block g hg).trans h

/-- make([]byte, n): the world behind it written out. -/
theorem mk_bytes {P : Program} (w : World) (t e : TypeId) (ht : P.underlying t = some (.slice e)) (hi : (P.info? e).map (fun i => (i.zero, i.size, i.bytes)) = some (some (.int .u8 0), 1, 1)) (n : Nat) (hn : n ≤ 140737488355328) (cs : Array Value) (hcs : cs = Array.replicate n (.int .u8 0)) (kl kc : IntKind := .i64) :
    (Instr.makeSlice t (.int kl (n : Int)) (.int kc (n : Int))).run P w = .ok (.slice (some ⟨w.heap.size, 0, none⟩) n n) (w.alloc (.cells cs e)) := by
  obtain ⟨i, hi1, hz, hs, hb⟩ := info_parts hi
  have h := run_make (P := P) w t e i (.int .u8 0) ht hi1 hz kl kc n n (by omega) (by omega) (by rw [hb]; omega) (by omega)
  rw [h]
  have e1 : madeCells #[Value.int .u8 0] n = cs := by
    rw [hcs]; apply Array.ext'; rw [toList_madeCells_one]; simp
  simp [hs, Value.cells, e1]

/-- Bytes as cells. -/
def bcells (l : List UInt8) : Array Value := (l.map u8).toArray
theorem bcells_size (l : List UInt8) : (bcells l).size = l.length := by simp [bcells]
theorem bcells_at (l : List UInt8) (i : Nat) (h : i < l.length) : (bcells l)[i]? = some (.int .u8 ((l[i]).toNat : Int)) := by simp [bcells, h]

/-- The slice at A reads as the bytes l, and lies below block B. -/
def Rb (w : World) (B : Nat) (A : Option Addr) (l : List UInt8) : Prop :=
  l = [] ∨ ∃ b o, A = some ⟨b, o, none⟩ ∧ b < B ∧ ∀ i, (h : i < l.length) → w.cell? ⟨b, o + i, none⟩ = some (.int .u8 ((l[i]).toNat : Int))

theorem Rb.nil (w : World) (B : Nat) (A : Option Addr) : Rb w B A [] := .inl rfl
theorem Rb.below {w w' : World} {B B' : Nat} {A : Option Addr} {l : List UInt8} (h : Rb w B A l) (hb : Below B' w w') (hB : B ≤ B') : Rb w' B A l := by
  rcases h with h | ⟨b, o, e, hlt, hc⟩
  · exact .inl h
  · exact .inr ⟨b, o, e, hlt, fun i hi => (hb.cell (p := ⟨b, o + i, none⟩) (by show b < B'; omega)).trans (hc i hi)⟩
theorem Rb.more {w : World} {B B' : Nat} {A : Option Addr} {l : List UInt8} (h : Rb w B A l) (hB : B ≤ B') : Rb w B' A l := by
  rcases h with h | ⟨b, o, e, hlt, hc⟩
  · exact .inl h
  · exact .inr ⟨b, o, e, by omega, hc⟩
theorem Rb.bk {w : World} {g : Nat} {t : TypeId} {l : List UInt8} (h : Bk w g t (bcells l)) : Rb w (g + 1) (some ⟨g, 0, none⟩) l :=
  .inr ⟨g, 0, rfl, by omega, fun i hi => by rw [h.cell, Nat.zero_add, bcells_at l i hi]⟩
theorem Rb.new (w : World) (t : TypeId) (l : List UInt8) : Rb (w.alloc (.cells (bcells l) t)) (w.heap.size + 1) (some ⟨w.heap.size, 0, none⟩) l := Rb.bk (Bk.new w t _)

theorem strOfNums_u8 (l : List UInt8) : strOfNums (l.map fun c => (c.toNat : Int)) = ⟨l.toArray⟩ := by
  have h := strOfNums_data (l.map fun c => (c.toNat : Int))
  have e : (strOfNums (l.map fun c => (c.toNat : Int))).data = l.toArray := by
    apply Array.ext'
    rw [h, List.map_map]
    have e0 : ((fun n : Int => UInt8.ofNat n.toNat) ∘ fun c : UInt8 => (c.toNat : Int)) = id := by funext c; simp
    rw [e0, List.map_id]
  cases hs : strOfNums (l.map fun c => (c.toNat : Int)) with
  | mk d => rw [hs] at e; simp at e; rw [e]

/-- string(b). -/
theorem str_of {P : Program} {w : World} {B : Nat} {A : Option Addr} {l : List UInt8} (h : Rb w B A l) (src e dst : TypeId) (hs : P.underlying src = some (.slice e)) (he : P.underlying e = some (.int .u8)) (hd : P.underlying dst = some .string) (n cap : Nat) (hn : l.length = n) :
    (convert src dst (.slice A n cap)).run P w = .ok (.string ⟨l.toArray⟩) w := by
  subst hn
  by_cases h0 : l = []
  · subst h0
    cases A with
    | none => exact run_convert_bytes_nil w src e hs he 0 cap dst hd
    | some a =>
      rw [run_convert_bytes_string w src dst e _ _ _ hs he hd]
      have hl := run_loadCells_list (P := P) w a [] (fun j v hj => by simp at hj)
      exact (run_bytesToString (P := P) w a 0 cap [] (by simpa using hl)).trans rfl
  · rcases h with h | ⟨b, o, rfl, _, hc⟩
    · exact absurd h h0
    · have := run_convert_bytes_arg (P := P) w src e hs he b o l.length cap (l.map fun c => (c.toNat : Int)) (by simp) (fun i hi => by
        rw [hc i hi]; simp [List.getD, hi]) dst hd
      rw [this, strOfNums_u8]

end Go.Proofs.YtekobdmlgbffnaaGreatDoor

/- A function value is made. Nothing of the program is named here. -/
namespace Go.Proofs.YtekobdmlgbffnaaGreatDoor
set_option linter.unusedVariables false
set_option maxRecDepth 100000
set_option linter.unusedSimpArgs false
open Go.RowKit

theorem hmf {P : Program} : ∀ (fn : Fn) (first cap : Array Value) (w : World), (Instr.makeFunc fn first cap).run P w = .ok (.func fn first cap) w := fun _ _ _ _ => rfl

end Go.Proofs.YtekobdmlgbffnaaGreatDoor

/- num.number over whatever tells its digits. -/
namespace Go.Proofs.YtekobdmlgbffnaaGreatDoor
set_option linter.unusedVariables false
set_option maxRecDepth 100000
set_option linter.unusedSimpArgs false
open Go.RowKit

/-- What number reckons of digits that are told: of each the digit, whether it is the last one, whether it is one at all. -/
def numS (b : Nat) (st : Nat → Nat × Bool × Bool) : Nat → Nat → Nat → Option (Nat × Nat)
  | 0, _, _ => none
  | f + 1, k, n =>
    let d := st k
    if d.2.2 = false then none
    else if 1099511627776 < n * b + d.1 ∨ (n * b + d.1 = 0 ∧ d.2.1 = false) then none
    else if d.2.1 = true then some (n * b + d.1, k + 1)
    else numS b st f (k + 1) (n * b + d.1)

/-- How number returns it. -/
def numE : Option (Nat × Nat) → Ending
  | some (n, k) => .returned (.tuple #[.int .i64 n, .int .i64 k, .bool true])
  | none => .returned (.tuple #[.int .i64 0, .int .i64 0, .bool false])

/-- A call of a function with a body goes into it. -/
theorem goes_in {P : Program} {f : FuncId} {fn : Func} {c : Code} (h1 : P.funcs[f]? = some fn) (h2 : (fn.name == "runtime.NumGoroutine") = false) (h3 : fn.body = some c) (args : Array Value) (w : World) :
    (callFunc f args).run P w = .ok (.enter f args) w := by
  have hn : fn.name ≠ "runtime.NumGoroutine" := by simpa using h2
  simp [callFunc, h1, hn, h3, mark]

set_option maxHeartbeats 1000000 in
theorem number_ok (b : Nat) (F : Nat) (cap : Array Value) (B len : Nat) (Inv : Nat → World → Prop) (st : Nat → Nat × Bool × Bool) (hb : 1 ≤ b) (hb2 : b ≤ 128)
    (hst : ∀ k, (st k).2.2 = true → k < len ∧ (st k).1 < 256) (hlen : len ≤ 140737488355328)
    (hin : ∀ w, (callFunc F cap).run Tryz.prog w = .ok (.enter F cap) w)
    (hstep : ∀ k w, k ≤ len → Inv k w → Calls Tryz.prog F cap w fun e w' => ∃ di lb, e = .returned (.tuple #[.int .i64 di, .bool lb, .bool (st k).2.2]) ∧ ((st k).2.2 = true → di = ((st k).1 : Int) ∧ lb = (st k).2.1 ∧ Inv (k + 1) w') ∧ Below B w w')
    (w : World) (h0 : Inv 0 w) :
    Calls Tryz.prog 128 #[.int .i64 b, .func (.func F) #[] cap] w fun e w' => e = numE (numS b st (len + 1) 0 0) ∧ Below B w w' := by
  have HST := Lib.hid hstep
  have HS2 := Lib.hid hst
  clear hstep hst
  obtain ⟨R, hR⟩ : ∃ R, numS b st (len + 1) 0 0 = R := ⟨_, rfl⟩
  rw [hR]
  have HR := Lib.hid hR
  clear hR
  go_enter Tryz.func128, Tryz.ntmps128
  go_wp2_with fail
  go_loopw [7, 8] (fun v7 v8 wr => ∃ n k : Nat, v7 = .int .i64 n ∧ v8 = .int .i64 ((k : Int) + 1) ∧ n ≤ 1099511627776 ∧ k ≤ len ∧ Hid (Inv k wr) ∧ Below B w wr ∧ Hid (numS b st (len + 1 - k) k n = R)) (fun _ v8 _ => len + 1 - (intOf v8).toNat)
  case atStart => exact ⟨0, 0, rfl, rfl, by omega, by omega, Lib.hid h0, Below.refl _ _, HR⟩
  case round =>
    obtain ⟨n, k, rfl, rfl, hn, hk, HI, hbel, HE⟩ := hrel
    have hcall := HST.out k wr hk HI.out
    have hs2 := HS2.out k
    obtain ⟨f, hf0⟩ : ∃ f, f = len - k := ⟨_, rfl⟩
    have hf : len + 1 - k = f + 1 := by omega
    have HF := Lib.hid hf0
    have hE := HE.out
    rw [hf, numS] at hE
    obtain ⟨d, last, is, hd⟩ : ∃ d last is, st k = (d, last, is) := ⟨_, _, _, rfl⟩
    rw [hd] at hcall hE hs2
    simp only [] at hcall hE hs2
    have hmul : ((n : Int) * (b : Int)) = ((n * b : Nat) : Int) := by simp
    have m1 : (0 : Int) ≤ (n : Int) * (b : Int) := by rw [hmul]; omega
    have m0 : n * b ≤ 1099511627776 * 128 := Nat.mul_le_mul hn hb2
    have m2 : (n : Int) * (b : Int) ≤ 140737488355328 := by rw [hmul]; omega
    have HC := Lib.hid hcall
    have HE2 := Lib.hid hE
    have HS3 := Lib.hid hs2
    have HM := Lib.hid hmul
    clear hcall hE hs2 hmul HST HS2 HE HR hd HI hf hf0 h0
    by_cases his : is = true
    · subst his
      obtain ⟨hkl, hdl⟩ := HS3.out rfl
      clear HS3
      replace HC := Lib.hid (HC.out.mono (R' := fun e w' => e = .returned (.tuple #[.int .i64 (d : Int), .bool last, .bool true]) ∧ Inv (k + 1) w' ∧ Below B wr w') (fun e w' ⟨di, lb, he, hI, hB⟩ => by
        obtain ⟨rfl, rfl, hI2⟩ := hI rfl
        exact ⟨he, hI2, hB⟩))
      have HM' := HM.out
      clear HM
      by_cases hbig : (1099511627776 : Int) < (n : Int) * (b : Int) + (d : Int)
      · have hR : R = none := by
          have := HE2.out
          rw [if_neg (by simp), if_pos (.inl (by omega))] at this
          exact this.symm
        clear HE2 HM'
        go_wp2_with (refine HC.out.mono ?_; rintro e w1 ⟨rfl, hI, hB⟩)
        go_ret3
        exact ⟨by rw [hR]; rfl, hbel.trans hB⟩
      · by_cases hz : (n : Int) * (b : Int) + (d : Int) = 0 ∧ last = false
        · obtain ⟨hz, rfl⟩ := hz
          have hR : R = none := by
            have := HE2.out
            rw [if_neg (by simp), if_pos (.inr ⟨by omega, rfl⟩)] at this
            exact this.symm
          have hz2 : (((n : Int) * (b : Int) + (d : Int)) == 0) = true := by simp [hz]
          clear HE2 HM' hz
          go_wp2_with (refine HC.out.mono ?_; rintro e w1 ⟨rfl, hI, hB⟩)
          go_ret3
          exact ⟨by rw [hR]; rfl, hbel.trans hB⟩
        · cases last with
          | true =>
            have hR : R = some (n * b + d, k + 1) := by
              have := HE2.out
              rw [if_neg (by simp), if_neg (by rintro (h | ⟨h, h'⟩) <;> first | omega | cases h'), if_pos rfl] at this
              exact this.symm
            have hz2 : Hid ((n : Int) * (b : Int) + (d : Int) = ((n * b + d : Nat) : Int)) := Lib.hid (by simp)
            clear HE2 HM' hz
            by_cases hzz : (((n : Int) * (b : Int) + (d : Int)) == 0) = true
            · go_wp2_with (refine HC.out.mono ?_; rintro e w1 ⟨rfl, hI, hB⟩)
              go_ret3
              exact ⟨by rw [hR, numE, ← hz2.out]; rfl, hbel.trans hB⟩
            · have hzz : (((n : Int) * (b : Int) + (d : Int)) == 0) = false := by simpa using hzz
              go_wp2_with (refine HC.out.mono ?_; rintro e w1 ⟨rfl, hI, hB⟩)
              go_ret3
              exact ⟨by rw [hR, numE, ← hz2.out]; rfl, hbel.trans hB⟩
          | false =>
            have hE3 := HE2.out
            rw [if_neg (by simp), if_neg (by rintro (h | ⟨h, h'⟩) <;> first | omega | exact hz ⟨by omega, rfl⟩), if_neg (by simp)] at hE3
            have HE3 := Lib.hid hE3
            have hz2 : (((n : Int) * (b : Int) + (d : Int)) == 0) = false := by
              have : ¬ ((n : Int) * (b : Int) + (d : Int) = 0) := fun h => hz ⟨h, rfl⟩
              simpa using this
            have hz3 : Hid ((n : Int) * (b : Int) + (d : Int) = ((n * b + d : Nat) : Int)) := Lib.hid (by simp)
            clear HE2 HM' hz hE3
            go_wp2_with (refine HC.out.mono ?_; rintro e w1 ⟨rfl, hI, hB⟩)
            go_roundw
            case rel => exact ⟨n * b + d, k + 1, by rw [hz3.out], by go_num, by have := hz3.out; omega, by omega, Lib.hid hI, hbel.trans hB, Lib.hid (by rw [← HE3.out]; congr 1; have := HF.out; omega)⟩
            case measure => simp [intOf]; omega
    · have his : is = false := by simpa using his
      subst his
      have hR := HE2.out
      rw [if_pos rfl] at hR
      have hR := hR.symm
      clear HE2 HS3 HM
      go_wp2_with (refine HC.out.mono ?_; rintro e w1 ⟨di, lb, rfl, hI, hB⟩)
      go_ret3
      exact ⟨by rw [hR]; rfl, hbel.trans hB⟩
end Go.Proofs.YtekobdmlgbffnaaGreatDoor

/- num.reader over a text: what it makes, and what each call of that tells. -/
namespace Go.Proofs.YtekobdmlgbffnaaGreatDoor
set_option linter.unusedVariables false
set_option maxRecDepth 100000
set_option linter.unusedSimpArgs false
open Go.RowKit

/-- The same over a text. -/
structure RdS (w : World) (g : Nat) (s : ByteArray) (k : Nat) : Prop where
  pos : Bk w (g + 1) 3 #[.int .i64 k]
  from_ : Bk w g 9 #[.string s]
  size : s.size ≤ 140737488355328
  le : k ≤ s.size

set_option maxHeartbeats 400000 in
theorem readerS_ok (s : ByteArray) (w : World) :
    Calls Tryz.prog 127 #[.string s] w fun e w' => e = .returned (.func (.func 147) #[] #[.pointer (some ⟨w.heap.size + 1, 0, none⟩), .pointer (some ⟨w.heap.size, 0, none⟩)]) ∧
      w' = (w.alloc (.cells #[.string s] 9)).alloc (.cells #[.int .i64 0] 3) := by
  have h := @hmf Tryz.prog
  go_enter Tryz.func127, Tryz.ntmps127
  go_wp2
  go_ret
  exact ⟨rfl, rfl⟩

theorem RdS.start {w : World} {s : ByteArray} (hl : s.size ≤ 140737488355328) :
    RdS ((w.alloc (.cells #[.string s] 9)).alloc (.cells #[.int .i64 0] 3)) w.heap.size s 0 := by
  have b1 : Bk (w.alloc (.cells #[.string s] 9)) w.heap.size 9 _ := Bk.new w _ _
  have b2 : Bk ((w.alloc (.cells #[.string s] 9)).alloc (.cells #[.int .i64 0] 3)) (w.heap.size + 1) 3 #[.int .i64 0] := by
    have := Bk.new (w.alloc (.cells #[.string s] 9)) 3 #[.int .i64 0]
    simpa using this
  exact ⟨b2, b1.alloc _, hl, by omega⟩

theorem RdS.step {w : World} {g k : Nat} {s : ByteArray} (h : RdS w g s k) (hk : k < s.size) : RdS (w.setCell ⟨g + 1, 0, none⟩ (.int .i64 ((k + 1 : Nat) : Int))) g s (k + 1) :=
  ⟨h.pos.set 0 _, h.from_.far (by show g ≠ g + 1; omega) _, h.size, by omega⟩

theorem RdS.below {w w' : World} {g k B : Nat} {s : ByteArray} (h : RdS w g s k) (hb : Below B w w') (hB : g + 2 ≤ B) : RdS w' g s k :=
  ⟨h.pos.below hb (by omega), h.from_.below hb (by omega), h.size, h.le⟩

set_option maxHeartbeats 400000 in
theorem readS_more (g k : Nat) (s : ByteArray) (w : World) (h : RdS w g s k) (hk : k < s.size) :
    Calls Tryz.prog 147 #[.pointer (some ⟨g + 1, 0, none⟩), .pointer (some ⟨g, 0, none⟩)] w fun e w' =>
      e = .returned (.tuple #[.int .u8 ((s[k]).toNat : Int), .bool true]) ∧ w' = w.setCell ⟨g + 1, 0, none⟩ (.int .i64 ((k + 1 : Nat) : Int)) := by
  have hsz := h.size
  have c1 : w.cell? ⟨g + 1, 0, none⟩ = some (.int .i64 k) := by rw [h.pos.cell]; rfl
  have c2 : w.cell? ⟨g, 0, none⟩ = some (.string s) := by rw [h.from_.cell]; rfl
  have f1 : w.frozen? ⟨g + 1, 0, none⟩ = false := h.pos.frozen 0
  have hne : ((k : Int) == (s.size : Int)) = false := by simp; omega
  clear h
  go_enter Tryz.func147, Tryz.ntmps147
  go_wp2
  go_ret2
  exact ⟨rfl, by go_num⟩

set_option maxHeartbeats 400000 in
theorem readS_end (g k : Nat) (s : ByteArray) (w : World) (h : RdS w g s k) (hk : ¬ k < s.size) :
    Calls Tryz.prog 147 #[.pointer (some ⟨g + 1, 0, none⟩), .pointer (some ⟨g, 0, none⟩)] w fun e w' =>
      e = .returned (.tuple #[.int .u8 0, .bool false]) ∧ w = w' := by
  have hsz := h.size
  have hle := h.le
  have c1 : w.cell? ⟨g + 1, 0, none⟩ = some (.int .i64 k) := by rw [h.pos.cell]; rfl
  have c2 : w.cell? ⟨g, 0, none⟩ = some (.string s) := by rw [h.from_.cell]; rfl
  have hne : ((k : Int) == (s.size : Int)) = true := by simp; omega
  clear h
  go_enter Tryz.func147, Tryz.ntmps147
  go_wp2
  go_ret2
  exact ⟨rfl, rfl⟩

end Go.Proofs.YtekobdmlgbffnaaGreatDoor

/- num.Parse: its contract. -/
namespace Go.Proofs.YtekobdmlgbffnaaGreatDoor
set_option linter.unusedVariables false
set_option maxRecDepth 100000
set_option linter.unusedSimpArgs false
open Go.RowKit

def stP (s : ByteArray) (k : Nat) : Nat × Bool × Bool := if h : k < s.size then ((s[k]).toNat - 48, decide (k + 1 = s.size), decide (48 ≤ (s[k]).toNat ∧ (s[k]).toNat ≤ 57)) else (0, true, false)
/-- The number of which a text is the decimals. -/
def parseS (s : ByteArray) : Option (Nat × Nat) := numS 10 (stP s) (s.size + 1) 0 0

structure ParI (w : World) (g : Nat) (s : ByteArray) (k : Nat) : Prop where
  rd : RdS w g s k
  next : Bk w (g + 1 + 1) 192 #[.func (.func 147) #[] #[.pointer (some ⟨g + 1, 0, none⟩), .pointer (some ⟨g, 0, none⟩)]]
  left : Bk w (g + 1 + 1 + 1) 3 #[.int .i64 ((s.size : Int) - (k : Int))]

theorem ParI.step {w : World} {g k : Nat} {s : ByteArray} (h : ParI w g s k) (hk : k < s.size) (nq : Nat) :
    ParI (((w.setCell ⟨g + 1, 0, none⟩ (.int .i64 ((k : Int) + 1))).setCell ⟨g + 1 + 1 + 1, 0, none⟩ (.int .i64 ((s.size : Int) - (k : Int) - 1))).drewN nq) g s (k + 1) ∧
    Below g w (((w.setCell ⟨g + 1, 0, none⟩ (.int .i64 ((k : Int) + 1))).setCell ⟨g + 1 + 1 + 1, 0, none⟩ (.int .i64 ((s.size : Int) - (k : Int) - 1))).drewN nq) := by
  have e1 : ((s.size : Int) - (k : Int) - 1) = ((s.size : Int) - ((k + 1 : Nat) : Int)) := by omega
  have e2 : ((k : Int) + 1) = ((k + 1 : Nat) : Int) := by omega
  rw [e1, e2]
  refine ⟨⟨?_, ?_, ?_⟩, ?_⟩
  · have := h.rd.step hk
    exact ⟨this.pos.far (p := ⟨g + 1 + 1 + 1, 0, none⟩) (by show g + 1 ≠ g + 1 + 1 + 1; omega) _, this.from_.far (p := ⟨g + 1 + 1 + 1, 0, none⟩) (by show g ≠ g + 1 + 1 + 1; omega) _, this.size, this.le⟩
  · exact (h.next.far (p := ⟨g + 1, 0, none⟩) (by show g + 1 + 1 ≠ g + 1; omega) _).far (p := ⟨g + 1 + 1 + 1, 0, none⟩) (by show g + 1 + 1 ≠ g + 1 + 1 + 1; omega) _
  · exact (h.left.far (p := ⟨g + 1, 0, none⟩) (by show g + 1 + 1 + 1 ≠ g + 1; omega) _).set 0 _
  · exact below_drewN (((Below.refl g w).setCell (by show g ≤ g + 1; omega) _).setCell (by show g ≤ g + 1 + 1 + 1; omega) _) nq

theorem parse1_fin {w' : World} {g k v S : Nat} {P Q : Prop} (b1 : Bool) (hb : b1 = decide (48 ≤ v ∧ v ≤ 57)) (h : P) (h' : Q) :
    ∃ di lb, Ending.returned (.tuple #[.int .i64 ((v : Int) - 48), .bool ((S : Int) - (k : Int) - 1 == 0), .bool b1]) = Ending.returned (.tuple #[.int .i64 di, .bool lb, .bool (decide (48 ≤ v ∧ v ≤ 57))]) ∧
      (decide (48 ≤ v ∧ v ≤ 57) = true → di = ((v - 48 : Nat) : Int) ∧ lb = decide (k + 1 = S) ∧ P) ∧ Q :=
  ⟨_, _, by rw [hb], (fun h0 => ⟨(by have : 48 ≤ v ∧ v ≤ 57 := (by simpa using h0); omega), (by rw [Bool.eq_iff_iff]; simp; omega), h⟩), h'⟩

set_option maxHeartbeats 400000 in
theorem parse1_ok (g k : Nat) (s : ByteArray) (w : World) (h : ParI w g s k) :
    Calls Tryz.prog 129 #[.pointer (some ⟨g + 1 + 1, 0, none⟩), .pointer (some ⟨g + 1 + 1 + 1, 0, none⟩)] w fun e w' =>
      ∃ di lb, e = .returned (.tuple #[.int .i64 di, .bool lb, .bool (stP s k).2.2]) ∧ ((stP s k).2.2 = true → di = ((stP s k).1 : Int) ∧ lb = (stP s k).2.1 ∧ ParI w' g s (k + 1)) ∧ Below g w w' := by
  have c1 : w.cell? ⟨g + 1 + 1, 0, none⟩ = some (.func (.func 147) #[] #[.pointer (some ⟨g + 1, 0, none⟩), .pointer (some ⟨g, 0, none⟩)]) := by rw [h.next.cell]; rfl
  have hsz := h.rd.size
  by_cases hk : k < s.size
  · have hc := Lib.hid (readS_more g k s w h.rd hk)
    have c2 : ∀ u : Value, (w.setCell ⟨g + 1, 0, none⟩ u).cell? ⟨g + 1 + 1 + 1, 0, none⟩ = some (.int .i64 ((s.size : Int) - (k : Int))) := by
      intro u
      have := (h.left.far (p := ⟨g + 1, 0, none⟩) (by show g + 1 + 1 + 1 ≠ g + 1; omega) u).cell 0
      rw [this]; rfl
    have c3 : ∀ u : Value, (w.setCell ⟨g + 1, 0, none⟩ u).frozen? ⟨g + 1 + 1 + 1, 0, none⟩ = false := fun u => (h.left.far (p := ⟨g + 1, 0, none⟩) (by show g + 1 + 1 + 1 ≠ g + 1; omega) u).frozen 0
    have c4 : ∀ u u' : Value, ((w.setCell ⟨g + 1, 0, none⟩ u).setCell ⟨g + 1 + 1 + 1, 0, none⟩ u').cell? ⟨g + 1 + 1 + 1, 0, none⟩ = some u' := by
      intro u u'
      have := ((h.left.far (p := ⟨g + 1, 0, none⟩) (by show g + 1 + 1 + 1 ≠ g + 1; omega) u).set 0 u').cell 0
      rw [this]; rfl
    have HF := Lib.hid (fun nq => ParI.step h hk nq)
    have hs : stP s k = ((s[k]).toNat - 48, decide (k + 1 = s.size), decide (48 ≤ (s[k]).toNat ∧ (s[k]).toNat ≤ 57)) := by simp [stP, hk]
    rw [hs]
    obtain ⟨v, hv⟩ : ∃ v : Nat, v = (s[k]).toNat := ⟨_, rfl⟩
    have hv2 : v < 256 := by rw [hv]; exact (s[k]).toNat_lt
    rw [← hv] at hc ⊢
    clear hs hv h
    have w1 : IntKind.i64.wrap ((v : Nat) : Int) = (v : Int) := IntWalk.i64_in _ (by omega)
    have w2 : IntKind.i64.wrap ((v : Int) - 48) = (v : Int) - 48 := IntWalk.i64_in _ (by omega)
    by_cases d1 : 48 ≤ v
    · have d2 : decide ((48 : Int) ≤ (v : Int)) = true := by simp; omega
      go_enter Tryz.func129, Tryz.ntmps129
      go_wp2_with (refine hc.out.mono ?_; rintro e w1 ⟨rfl, hw1⟩; subst hw1)
      go_quiet (fail)
      go_wp2
      go_ret3
      have := HF.out nq
      exact parse1_fin (w' := w) (g := g) _ (by rw [Bool.eq_iff_iff]; simp; omega) this.1 this.2
    · have d2 : decide ((48 : Int) ≤ (v : Int)) = false := by simp; omega
      go_enter Tryz.func129, Tryz.ntmps129
      go_wp2_with (refine hc.out.mono ?_; rintro e w1 ⟨rfl, hw1⟩; subst hw1)
      go_quiet (fail)
      go_wp2
      go_ret3
      have := HF.out nq
      exact parse1_fin (w' := w) (g := g) _ (by rw [Bool.eq_iff_iff]; simp; omega) this.1 this.2
  · have hc := Lib.hid (readS_end g k s w h.rd hk)
    have hs : stP s k = (0, true, false) := by simp [stP, hk]
    have c2 : w.cell? ⟨g + 1 + 1 + 1, 0, none⟩ = some (.int .i64 ((s.size : Int) - (k : Int))) := by rw [h.left.cell]; rfl
    have c3 : w.frozen? ⟨g + 1 + 1 + 1, 0, none⟩ = false := h.left.frozen 0
    have hle := h.rd.le
    have c4 : ∀ u' : Value, (w.setCell ⟨g + 1 + 1 + 1, 0, none⟩ u').cell? ⟨g + 1 + 1 + 1, 0, none⟩ = some u' := by
      intro u'
      have := (h.left.set 0 u').cell 0
      rw [this]; rfl
    rw [hs]
    clear hs h
    have w1 : IntKind.i64.wrap (-48 : Int) = -48 := IntWalk.i64_in _ (by omega)
    go_enter Tryz.func129, Tryz.ntmps129
    go_wp2_with (refine hc.out.mono ?_; rintro e w1 ⟨rfl, rfl⟩)
    go_quiet (fail)
    go_wp2
    go_ret3
    exact ⟨_, _, rfl, (fun h => by cases h), below_drewN ((Below.refl g w).setCell (by show g ≤ g + 1 + 1 + 1; omega) _) nq⟩

theorem in26 (args : Array Value) (w : World) : (callFunc 129 args).run Tryz.prog w = .ok (.enter 129 args) w := goes_in Tryz.func129 (by kernel_rfl) rfl args w

/-- How Parse returns it. -/
def parE : Option (Nat × Nat) → Ending
  | some (n, _) => .returned (.tuple #[.int .i64 n, .bool true])
  | none => .returned (.tuple #[.int .i64 0, .bool false])

set_option maxHeartbeats 400000 in
theorem parse_ok (s : ByteArray) (w : World) (hl : s.size ≤ 140737488355328) :
    Calls Tryz.prog 106 #[.string s] w fun e w' => e = parE (parseS s) ∧ Below w.heap.size w w' := by
  have h1 := Lib.hid (RdS.start (w := w) hl)
  have hnum := Lib.hid (fun (w' : World) (hi : ParI w' w.heap.size s 0) => number_ok 10 129 #[.pointer (some ⟨w.heap.size + 1 + 1, 0, none⟩), .pointer (some ⟨w.heap.size + 1 + 1 + 1, 0, none⟩)] w.heap.size s.size (fun k w' => ParI w' w.heap.size s k) (stP s) (by omega) (by omega)
    (fun k hk => by
      unfold stP at hk ⊢
      by_cases hkl : k < s.size
      · rw [dif_pos hkl]; exact ⟨hkl, by have := (s[k]).toNat_lt; show (s[k]).toNat - 48 < 256; omega⟩
      · rw [dif_neg hkl] at hk; cases hk) hl (fun w' => in26 _ w') (fun k w' _ hi => parse1_ok w.heap.size k s w' hi) w' hi)
  obtain ⟨R, hR⟩ : ∃ R, parseS s = R := ⟨_, rfl⟩
  rw [hR]
  have HR := Lib.hid hR
  clear hR
  have hmf := @hmf Tryz.prog
  go_enter Tryz.func106, Tryz.ntmps106
  go_wp2_with fail
  refine (readerS_ok s _).mono ?_
  rintro e w' ⟨rfl, rfl⟩
  go_wp2_with fail
  refine (hnum.out _ ⟨(h1.out.below (Below.alloc (Below.refl _ _) (Nat.le_refl _) _) (by simp)).below (Below.alloc (Below.refl _ _) (Nat.le_refl _) _) (by simp), ?_, ?_⟩).mono ?_
  · exact (Bk.here (by simp)).alloc _
  · exact Bk.here (by simp)
  rintro e w' ⟨he, hb⟩
  have hb2 : Below w.heap.size w w' := (by go_grown : Below w.heap.size w _).trans hb
  replace he : e = numE R := he.trans (congrArg numE HR.out)
  rcases R with _ | ⟨n, k⟩
  · simp only [numE] at he
    subst he
    go_wp2
    go_ret2
    exact ⟨rfl, hb2⟩
  · simp only [numE] at he
    subst he
    go_wp2
    go_ret2
    exact ⟨rfl, hb2⟩

end Go.Proofs.YtekobdmlgbffnaaGreatDoor
