/- LsM, Tail, Open, ConvR, Bytes, AppOp: texts of this seat, one behind the other. -/
import Derived.Test.YtpbobmiajjgekaaG4
import Derived.Test.YtpbobmiajjgekaaG3
import Derived.Test.YtpbobmiajjgekaaG1
import Derived.Test.YtpbobmiajjgekaaG2
import Derived.Test.YtpbobmiajjgekaaRows
import Derived.ProofKit
import Derived.OpenShut
import Derived.ShutString
import Derived.ChangeOld
import Derived.Below
import Derived.SliceStrings
import Derived.Lib.AppendStr
import Derived.Laws.AppendOwnNone
import Derived.Lib.SlBytesConst
import Derived.Deep.AppendLies
/- Leases: what the document asks, as Lean functions. (Begun in round 12, ahead of the landing: nothing of the program is named here.) -/
namespace Go.Proofs.Ytpbobmiajjgekaa
set_option linter.unusedVariables false
set_option maxRecDepth 100000
set_option linter.unusedSimpArgs false

structure Ls where
  name : ByteArray
  ten : ByteArray
  conn : Int
  epoch : Int
  till : Int
  held : Bool
/-- Are the names one? (As config's nmEq; lease does not stand on config.) -/
def nmE (a b : ByteArray) : Bool := a.toList == b.toList
/-- Held at a time; kept at a time, with that grace. -/
def heL (x : Ls) (now : Int) : Bool := x.held && decide (now < x.till)
def kpL (g : Int) (x : Ls) (now : Int) : Bool := if x.held = true then decide (x.till ≤ now) && decide (now < x.till + g) else decide (now < x.till)
def fnL (s : ByteArray) (l : List Ls) : Option Ls := l.find? fun x => nmE x.name s
def drL (s : ByteArray) (l : List Ls) : List Ls := l.filter fun x => !nmE x.name s
/-- A name's lease is this one: at its place among rising names. -/
def ptL (x : Ls) : List Ls → List Ls
  | [] => [x]
  | y :: r => if nmE y.name x.name then x :: r else if ltS x.name y.name then x :: y :: r else y :: ptL x r
/-- Leases by rising names. -/
def UpL (l : List Ls) : Prop := l.Pairwise fun a b => ltS a.name b.name = true
theorem bl_total : ∀ x y : List UInt8, Op.bytesLess x y = true ∨ x = y ∨ Op.bytesLess y x = true
  | [], [] => .inr (.inl rfl)
  | [], b :: y => .inl (by simp [Op.bytesLess])
  | a :: x, [] => .inr (.inr (by simp [Op.bytesLess]))
  | a :: x, b :: y => by
    simp only [Op.bytesLess, Bool.or_eq_true, Bool.and_eq_true, decide_eq_true_eq, beq_iff_eq, List.cons.injEq]
    by_cases h1 : a < b
    · exact .inl (.inl h1)
    · by_cases h2 : b < a
      · exact .inr (.inr (.inl h2))
      · have e : a = b := by
          rw [UInt8.lt_iff_toNat_lt] at h1 h2
          exact UInt8.toNat_inj.1 (by omega)
        subst e
        rcases bl_total x y with h | h | h
        · exact .inl (.inr ⟨rfl, h⟩)
        · exact .inr (.inl ⟨rfl, h⟩)
        · exact .inr (.inr (.inr ⟨rfl, h⟩))
theorem ltS_total (a b : ByteArray) : ltS a b = true ∨ a = b ∨ ltS b a = true := by
  rcases bl_total a.toList b.toList with h | h | h
  · exact .inl h
  · refine .inr (.inl ?_)
    rw [ByteArray.toList_eq, ByteArray.toList_eq] at h
    cases a; cases b
    simp only [Array.toList_inj] at h
    rw [h]
  · exact .inr (.inr h)
theorem nmE_iff (a b : ByteArray) : nmE a b = true ↔ a = b := by
  unfold nmE
  rw [beq_iff_eq]
  constructor
  · intro h
    rw [ByteArray.toList_eq, ByteArray.toList_eq] at h
    cases a; cases b
    simp only [Array.toList_inj] at h
    rw [h]
  · rintro rfl; rfl
theorem mem_ptL {x y : Ls} : ∀ {l : List Ls}, y ∈ ptL x l → y = x ∨ y ∈ l
  | [], h => by simp [ptL] at h; exact .inl h
  | z :: r, h => by
    unfold ptL at h
    split at h
    · rcases List.mem_cons.1 h with h | h
      · exact .inl h
      · exact .inr (List.mem_cons_of_mem _ h)
    · split at h
      · rcases List.mem_cons.1 h with h | h
        · exact .inl h
        · exact .inr h
      · rcases List.mem_cons.1 h with h | h
        · exact .inr (h ▸ List.mem_cons_self ..)
        · rcases mem_ptL h with h | h
          · exact .inl h
          · exact .inr (List.mem_cons_of_mem _ h)
theorem ptL_up {x : Ls} : ∀ {l : List Ls}, UpL l → UpL (ptL x l)
  | [], _ => List.pairwise_singleton _ _
  | z :: r, h => by
    obtain ⟨h1, h2⟩ := List.pairwise_cons.1 h
    unfold ptL
    split
    · rename_i he
      rw [nmE_iff] at he
      exact List.pairwise_cons.2 ⟨fun a ha => by rw [← he]; exact h1 a ha, h2⟩
    · rename_i hne
      split
      · rename_i hl
        exact List.pairwise_cons.2 ⟨fun a ha => by
          rcases List.mem_cons.1 ha with rfl | ha
          · exact hl
          · exact ltS_trans hl (h1 a ha), h⟩
      · rename_i hl
        refine List.pairwise_cons.2 ⟨fun a ha => ?_, ptL_up h2⟩
        rcases mem_ptL ha with rfl | ha
        · rcases ltS_total z.name a.name with k | k | k
          · exact k
          · exact absurd ((nmE_iff _ _).2 k) hne
          · exact absurd k hl
        · exact h1 a ha
theorem drL_up {s : ByteArray} {l : List Ls} (h : UpL l) : UpL (drL s l) := List.Pairwise.filter _ h
theorem ptL_len {x : Ls} : ∀ {l : List Ls}, (ptL x l).length ≤ l.length + 1
  | [] => Nat.le_refl _
  | z :: r => by
    unfold ptL
    split
    · simp
    · split
      · simp
      · have := ptL_len (x := x) (l := r); simp only [List.length_cons]; omega
theorem fn_ptL {x : Ls} {s : ByteArray} : ∀ {l : List Ls}, UpL l → fnL s (ptL x l) = if nmE x.name s then some x else fnL s l
  | [], _ => by
    unfold fnL ptL
    rw [List.find?_cons]
    cases nmE x.name s <;> rfl
  | z :: r, h => by
    obtain ⟨h1, h2⟩ := List.pairwise_cons.1 h
    unfold ptL
    split
    · rename_i he
      rw [nmE_iff] at he
      unfold fnL
      rw [List.find?_cons, List.find?_cons, he]
      cases nmE x.name s <;> rfl
    · rename_i hne
      split
      · unfold fnL
        rw [List.find?_cons]
        cases nmE x.name s <;> rfl
      · unfold fnL
        rw [List.find?_cons, List.find?_cons]
        cases hz : nmE z.name s with
        | true =>
          rw [nmE_iff] at hz
          have : nmE x.name s = false := by
            rw [Bool.eq_false_iff]
            intro hx
            rw [nmE_iff] at hx
            exact hne ((nmE_iff _ _).2 (hz.trans hx.symm))
          rw [this]; rfl
        | false => exact fn_ptL h2
theorem fn_drL {s t : ByteArray} {l : List Ls} : fnL t (drL s l) = if nmE s t then none else fnL t l := by
  unfold fnL drL
  induction l with
  | nil => simp
  | cons z r ih =>
    rw [List.filter_cons, List.find?_cons]
    cases hz : nmE z.name s with
    | true =>
      rw [nmE_iff] at hz
      simp only [Bool.not_true, Bool.false_eq_true, if_false]
      rw [ih, hz]
      cases nmE s t <;> rfl
    | false =>
      simp only [Bool.not_false, if_true]
      rw [List.find?_cons, ih]
      cases ht : nmE z.name t with
      | true =>
        rw [nmE_iff] at ht
        have : nmE s t = false := by
          rw [Bool.eq_false_iff]
          intro hx
          rw [nmE_iff] at hx
          rw [ht, ← hx, (nmE_iff s s).2 rfl] at hz
          cases hz
        rw [this]; rfl
      | false => rfl
/-! ### The calls -/
def zeroLs : Ls := ⟨ByteArray.empty, ByteArray.empty, 0, 0, 0, false⟩
/-- A book: its leases, the next epoch. -/
structure Bo where
  l : List Ls
  nx : Int
def clkB (n : Int) : Bool := decide (0 ≤ n) && decide (n ≤ 1099511627776)
def claimL (g most : Int) (b : Bo) (ten s : ByteArray) (conn now ttl : Int) : Ls × Int × Bo :=
  let x : Ls := ⟨s, ten, conn, b.nx, now + min ttl most, true⟩
  if (nameB ten && nameB s && clkB now && timB ttl) = false then (zeroLs, 1, b)
  else match fnL s b.l with
    | some y => if (!nmE y.ten ten && (heL y now || kpL g y now)) = true then (zeroLs, 131, b) else if heL y now = true then (zeroLs, 4, b) else (x, 0, ⟨ptL x b.l, b.nx + 1⟩)
    | none => if 64 ≤ b.l.length then (zeroLs, 2, b) else (x, 0, ⟨ptL x b.l, b.nx + 1⟩)
def holdL (b : Bo) (s : ByteArray) (now : Int) : Option Ls := (fnL s b.l).filter fun x => heL x now
/-- A lease that a tenant holds, in an epoch: the error, or it. -/
def ownL (b : Bo) (ten s : ByteArray) (ep now : Int) : Ls × Int :=
  if clkB now = false then (zeroLs, 1)
  else match holdL b s now with
    | none => (zeroLs, 3)
    | some x => if nmE x.ten ten = false then (zeroLs, 131) else if x.epoch = ep then (x, 0) else (zeroLs, 132)
def renewL (most : Int) (b : Bo) (ten s : ByteArray) (ep now ttl : Int) : Ls × Int × Bo :=
  if timB ttl = false then (zeroLs, 1, b)
  else if (ownL b ten s ep now).2 = 0 then
    let x : Ls := { (ownL b ten s ep now).1 with till := now + min ttl most }
    (x, 0, ⟨ptL x b.l, b.nx⟩)
  else (zeroLs, (ownL b ten s ep now).2, b)
def releaseL (g : Int) (b : Bo) (ten s : ByteArray) (ep now : Int) : Int × Bo :=
  if (ownL b ten s ep now).2 = 0 then (0, ⟨ptL { (ownL b ten s ep now).1 with held := false, till := now + g } b.l, b.nx⟩)
  else ((ownL b ten s ep now).2, b)
def evictL (b : Bo) (s : ByteArray) (now : Int) : Option Ls × Bo :=
  if clkB now = false then (none, b)
  else match holdL b s now with
    | none => (none, b)
    | some x => (some x, ⟨drL s b.l, b.nx⟩)
def lvX (g conn now : Int) (x : Ls) : Ls := if (decide (x.conn = conn) && heL x now) = true then { x with held := false, till := now + g } else x
def leaveL (g : Int) (b : Bo) (conn now : Int) : List Ls × Bo :=
  if clkB now = false then ([], b)
  else (b.l.filter (fun x => decide (x.conn = conn) && heL x now), ⟨b.l.map (lvX g conn now), b.nx⟩)
def lpX (g now : Int) (x : Ls) : Ls := if (x.held && decide (x.till ≤ now)) = true then { x with held := false, till := x.till + g } else x
def lapseL (g : Int) (b : Bo) (now : Int) : List Ls × Bo :=
  if clkB now = false then ([], b)
  else (b.l.filter (fun x => x.held && decide (x.till ≤ now)), ⟨(b.l.map (lpX g now)).filter (fun x => heL x now || kpL g x now), b.nx⟩)
theorem lvX_name (g conn now : Int) (x : Ls) : (lvX g conn now x).name = x.name := by unfold lvX; split <;> rfl
theorem lpX_name (g now : Int) (x : Ls) : (lpX g now x).name = x.name := by unfold lpX; split <;> rfl
theorem map_up {f : Ls → Ls} (hf : ∀ x, (f x).name = x.name) {l : List Ls} (h : UpL l) : UpL (l.map f) := by
  unfold UpL at h ⊢
  rw [List.pairwise_map]
  exact h.imp fun {a b} hab => by rw [hf, hf]; exact hab
theorem leave_up {g conn now : Int} {b : Bo} (h : UpL b.l) : UpL (leaveL g b conn now).2.l := by
  unfold leaveL
  split
  · exact h
  · exact map_up (lvX_name g conn now) h
theorem lapse_up {g now : Int} {b : Bo} (h : UpL b.l) : UpL (lapseL g b now).2.l := by
  unfold lapseL
  split
  · exact h
  · exact List.Pairwise.filter _ (map_up (lpX_name g now) h)
end Go.Proofs.Ytpbobmiajjgekaa

/- Parts of a slice of bytes; a slice expression in a region that draws its order, and in one that does not. -/
namespace Go.Proofs.Ytpbobmiajjgekaa
set_option linter.unusedVariables false
set_option maxRecDepth 100000
set_option linter.unusedSimpArgs false
open Go.RowKit

theorem yieldsIf_slice {P : Program} {ops : Array Oper} {S : World → Prop} {oi : Oper} {a : Act} (hw : Region.wanted oi (yielded ops a.tmps) = true) (t : TypeId) (x : Operand) (lo hi : Option Operand) (ho : oi.op = .slice t x lo hi none) (v : Value)
    (h : ∀ w, (Instr.sliceAt t (a.eval x) (lo.map a.eval) (hi.map a.eval) none).run P w = .ok v w) : YieldsIf P ops S oi v a :=
  .inl ⟨hw, fun w _ => by
    unfold execOp
    simp only [ho, Sem.run_bind, Option.map_none, h w, Result.andThen_ok, Sem.run_pure]⟩

/-- Where b[lo:] lies. -/
def tailA (A : Option Addr) (c lo : Nat) : Option Addr := if c = lo then A else A.map (·.add (lo * 1))
theorem tailA_none (A : Option Addr) (c lo : Nat) (h : tailA A c lo = none) : A = none := by
  unfold tailA at h
  split at h
  · exact h
  · cases A with
    | none => rfl
    | some a => cases h
theorem Rb.tail {w : World} {B : Nat} {A : Option Addr} {l : List UInt8} {c : Nat} (h : Rb w B A l) (lo : Nat) (hc : l.length ≤ c) : Rb w B (tailA A c lo) (l.drop lo) := by
  by_cases h0 : l.drop lo = []
  · left; exact h0
  · have hlo : lo < l.length := by
      rcases Nat.lt_or_ge lo l.length with h1 | h1
      · exact h1
      · exact absurd (List.drop_of_length_le h1) h0
    rcases h with h | ⟨b, o, e, hb, hcl⟩
    · rw [h] at hlo; simp at hlo
    · subst e
      have e2 : tailA (some ⟨b, o, none⟩) c lo = some ⟨b, o + lo, none⟩ := by
        unfold tailA
        rw [if_neg (by omega)]
        simp only [Option.map_some, Nat.mul_one, Addr.add]
        split <;> simp_all
      rw [e2]
      refine .inr ⟨b, o + lo, rfl, hb, fun i hi => ?_⟩
      have hi' : lo + i < l.length := by rw [List.length_drop] at hi; omega
      have := hcl (lo + i) hi'
      rw [← Nat.add_assoc] at this
      rw [this, List.getElem_drop]
theorem Rb.front {w : World} {B : Nat} {A : Option Addr} {l : List UInt8} (h : Rb w B A l) (n : Nat) : Rb w B A (l.take n) := by
  rcases h with h | ⟨b, o, e, hb, hc⟩
  · left; rw [h]; simp
  · refine .inr ⟨b, o, e, hb, fun i hi => ?_⟩
    have hi' : i < l.length := by rw [List.length_take] at hi; omega
    rw [hc i hi', List.getElem_take]
theorem slice_fr (A : Option Addr) (n c lo : Nat) (h : lo ≤ n) (hc : n ≤ c) (u : World) : (Instr.sliceAt 79 (.slice A n c) (some (.int .i64 (lo : Int))) none none).run Try.prog u = .ok (.slice (tailA A c lo) (n - lo) (c - lo)) u := by
  have h1 : (lo : Int) ≤ (n : Int) := by omega
  unfold tailA
  go_simp
/-- b[lo:] in a region that draws nothing. -/
theorem wpList_from {P : Program} {ops : Array Oper} {rest : List Oper} {o : Oper} {a : Act} {Q : Exit → Act → World → Prop} {w : World} (hgd : o.guard = none) (t : TypeId) (x lo : Operand) (ho : o.op = .slice t x (some lo) none none) (vx vl v : Value) (hx : a.eval x = vx) (hl : a.eval lo = vl)
    (hr : (Instr.sliceAt t vx (some vl) none none).run P w = .ok v w) (h : wpList P ops Q rest (a.put o.dst v) w) : wpList P ops Q (o :: rest) a w :=
  wpList_plain hgd fun _ hK => by
    unfold Oper.wp execOp
    simp only [ho, Option.map_some, Option.map_none, hx, hl, Sem.run_bind, hr, Result.andThen_ok, Sem.run_pure]
    exact hK _ _ h
end Go.Proofs.Ytpbobmiajjgekaa

/- What comes in, opened into my own words. Nothing of the program is named here. -/
namespace Go.Proofs.Ytpbobmiajjgekaa
set_option linter.unusedVariables false
set_option maxRecDepth 100000
set_option linter.unusedSimpArgs false
open Go.ChangeShapes Go.WideShapes Go.ChangeAt Go.RowKit

/-- A slice of bytes that came in. -/
structure InB (W : World) (A : Option Addr) (l : List UInt8) (n c : Nat) : Prop where
  rb : Rb W W.heap.size A l
  len : l.length = n
  cap : n ≤ c
  max : c ≤ maxLen
  nil_ : A = none → n = 0 ∧ c = 0

/-- A slice of integers that came in. -/
structure InN (k : IntKind) (W : World) (A : Option Addr) (l : List Int) (n c : Nat) : Prop where
  len : l.length = n
  cap : n ≤ c
  max : c ≤ maxLen
  nil_ : A = none → n = 0 ∧ c = 0
  at_ : n = 0 ∨ ∃ b o, A = some ⟨b, o, none⟩ ∧ b < W.heap.size ∧ ∀ i, (h : i < l.length) → W.cell? ⟨b, o + i, none⟩ = some (.int k l[i])
  wf : ∀ x ∈ l, (Lit.int k x).wf = true

theorem add_plain (b o i : Nat) : (⟨b, o, none⟩ : Addr).add i = ⟨b, o + i, none⟩ := by unfold Addr.add; split <;> simp_all

theorem open_nums {H : Type} {enc : TypeId × Value → H} {P : Program} {W : World} {A : Option Addr} {n c : Nat} {t e : TypeId} {k : IntKind} {d : DataW H} {p : List MemPlace} (ht : P.underlying t = some (.slice e)) (he : P.underlying e = some (.int k)) (hc : P.cellsOf e = 1)
    (h : DataW.Trod enc P W 0 (fun _ => true) true t (.slice A n c) d p) : ∃ l, InN k W A l n c := by
  obtain ⟨fuel, hf⟩ := h
  rcases open_ints ht he hc hf with ⟨hcs, _⟩ | ⟨x, ln, cp, zs, hcs, _, hl, hm, hz, _, hcell, hwz⟩
  · simp [Value.cells] at hcs
    obtain ⟨rfl, rfl, rfl⟩ := hcs
    exact ⟨[], ⟨rfl, Nat.le_refl _, by unfold maxLen; omega, fun _ => ⟨rfl, rfl⟩, .inl rfl, fun x hx => by cases hx⟩⟩
  · simp [Value.cells] at hcs
    obtain ⟨rfl, rfl, rfl⟩ := hcs
    have hzl : zs.length = c := by simpa using hz
    refine ⟨zs.take n, ⟨by rw [List.length_take]; omega, hl, hm, (fun h => by cases h), ?_, fun y hy => hwz y (List.mem_of_mem_take hy)⟩⟩
    by_cases h0 : n = 0
    · exact .inl h0
    · right
      obtain ⟨b, o, spot⟩ := x
      have hc0 := hcell 0 (by omega)
      have hspot : spot = none := by simpa [Addr.add] using World.cell?_spot hc0
      subst hspot
      refine ⟨b, o, rfl, ?_, fun i hi => ?_⟩
      · have := World.block_lt_of_cell? W _ hc0
        rw [add_plain] at this
        exact this
      · have hi' : i < zs.length := by rw [List.length_take] at hi; omega
        have := hcell i hi'
        rw [add_plain] at this
        rw [this]
        simp [List.getD, hi']

theorem open_bytes {H : Type} {enc : TypeId × Value → H} {P : Program} {W : World} {A : Option Addr} {n c : Nat} {t e : TypeId} {d : DataW H} {p : List MemPlace} (ht : P.underlying t = some (.slice e)) (he : P.underlying e = some (.int .u8)) (hc : P.cellsOf e = 1)
    (h : DataW.Trod enc P W 0 (fun _ => true) true t (.slice A n c) d p) : ∃ l, InB W A l n c := by
  obtain ⟨zs, hz⟩ := open_nums ht he hc h
  refine ⟨zs.map fun z => UInt8.ofNat z.toNat, ⟨?_, by rw [List.length_map]; exact hz.len, hz.cap, hz.max, hz.nil_⟩⟩
  rcases hz.at_ with h0 | ⟨b, o, e1, hb, hcell⟩
  · left
    have : zs = [] := List.eq_nil_of_length_eq_zero (by rw [hz.len, h0])
    rw [this]; rfl
  · right
    refine ⟨b, o, e1, hb, fun i hi => ?_⟩
    have hi' : i < zs.length := by simpa using hi
    rw [hcell i hi']
    have hw := hz.wf zs[i] (List.getElem_mem hi')
    have hr : 0 ≤ zs[i] ∧ zs[i] < 256 := by
      have e1 : IntKind.u8.min = 0 := by decide
      have e2 : IntKind.u8.max = 255 := by decide
      simp only [Lit.wf, e1, e2, Bool.and_eq_true, decide_eq_true_eq] at hw
      omega
    have : ((UInt8.ofNat (zs[i].toNat)).toNat : Int) = zs[i] := by
      rw [UInt8.toNat_ofNat']
      omega
    simp only [List.getElem_map]
    rw [this]

end Go.Proofs.Ytpbobmiajjgekaa

/- string(b) in a region that draws its order. Nothing of the program is named here. -/
namespace Go.Proofs.Ytpbobmiajjgekaa
set_option linter.unusedVariables false
set_option maxRecDepth 100000
set_option linter.unusedSimpArgs false
open Go.RowKit

theorem yieldsIf_conv {P : Program} {ops : Array Oper} {S : World → Prop} {oi : Oper} {a : Act} (hw : Region.wanted oi (yielded ops a.tmps) = true) (src e dst : TypeId) (x : Operand) (ho : oi.op = .convert src dst x)
    (A : Option Addr) (n c : Nat) (l : List UInt8) (hx : a.eval x = .slice A n c) (hn : l.length = n) {B : World → Nat} (hR : ∀ w, S w → Rb w (B w) A l) (hs : P.underlying src = some (.slice e)) (he : P.underlying e = some (.int .u8)) (hd : P.underlying dst = some .string) : YieldsIf P ops S oi (.string (bs l)) a :=
  .inl ⟨hw, fun w hw' => by
    unfold execOp
    simp only [ho, hx, Sem.run_bind, str_of (hR w hw') src e dst hs he hd n c hn, Result.andThen_ok, Sem.run_pure, bs]⟩
end Go.Proofs.Ytpbobmiajjgekaa

/- Slices of bytes that the call itself made: what they own, and what an append leaves. Nothing of the program is named here. -/
namespace Go.Proofs.Ytpbobmiajjgekaa
set_option linter.unusedVariables false
set_option maxRecDepth 100000
set_option linter.unusedSimpArgs false
open Go.RowKit

/-- The slice at A, of capacity c, owns the bytes l: it lies at block B or behind it. -/
def OB (w : World) (B : Nat) (e : TypeId) (A : Option Addr) (c : Nat) (l : List UInt8) : Prop := w.ownsRow B e 1 (.slice A l.length c) l.length (l.map u8)

theorem OB.nil (w : World) (B : Nat) (e : TypeId) : OB w B e none 0 [] := World.ownsRow_nil w B e 1

theorem OB.form {w : World} {B : Nat} {e : TypeId} {A : Option Addr} {c : Nat} {l : List UInt8} (h : OB w B e A c l) (h0 : l ≠ []) : ∃ g, A = some ⟨g, 0, none⟩ ∧ B ≤ g ∧ g < w.heap.size := by
  have hp : 0 < l.length := List.length_pos_iff.2 h0
  obtain ⟨g, cap, hv, hb, hl⟩ := World.ownsRow.form h hp
  injection hv with h1 h2 h3
  exact ⟨g, h1, hb, hl⟩

theorem OB.rb {w : World} {B : Nat} {e : TypeId} {A : Option Addr} {c : Nat} {l : List UInt8} (h : OB w B e A c l) : Rb w w.heap.size A l := by
  by_cases h0 : l = []
  · exact .inl h0
  · obtain ⟨g, rfl, _, hl⟩ := h.form h0
    refine .inr ⟨g, 0, rfl, hl, fun i hi => ?_⟩
    have := World.ownsRow.cellAt h i (by omega)
    rw [Nat.zero_add, this]
    simp [hi]

theorem OB.cap {w : World} {B : Nat} {e : TypeId} {A : Option Addr} {c : Nat} {l : List UInt8} (h : OB w B e A c l) : l.length ≤ c ∧ c ≤ 9223372036854775807 := by
  rcases h.2 with ⟨hv, h0⟩ | ⟨g, cap, cur, hv, _, _, hn, hm, _⟩
  · injection hv with _ _ h3
    omega
  · injection hv with _ _ h3
    unfold maxLen at hm
    omega

theorem OB.new {w : World} {B : Nat} (e : TypeId) (l : List UInt8) (hB : B ≤ w.heap.size) (hl : l.length ≤ 140737488355328) : OB (w.alloc (.cells (bcells l) e)) B e (some ⟨w.heap.size, 0, none⟩) l.length l := by
  have := World.ownsRow_lit (base := B) (e := e) (size := 1) w (bcells l) l.length hB (by unfold maxLen; omega) (by rw [bcells_size]; omega)
  have e1 : (bcells l).toList = l.map u8 := by simp [bcells]
  rw [e1] at this
  exact this

theorem OB.grown {w w' : World} {B : Nat} {e : TypeId} {A : Option Addr} {c : Nat} {l : List UInt8} (h : OB w B e A c l) {row : Option Nat} (hg : w.grownBy w' row) (hne : (Value.slice A l.length c).ownBlock = none ∨ (Value.slice A l.length c).ownBlock ≠ row) : OB w' B e A c l :=
  World.ownsRow.kept h hg hne
theorem OB.alloc {w : World} {B : Nat} {e : TypeId} {A : Option Addr} {c : Nat} {l : List UInt8} (h : OB w B e A c l) (o : Obj) : OB (w.alloc o) B e A c l := World.ownsRow.alloc h o

/-- append of bytes that a slice reads as. -/
theorem wp_app {P : Program} {ops : Array Oper} {rest : List Oper} {o : Oper} {a : Act} {Q : Exit → Act → World → Prop} {w : World} (hgd : o.guard = none) (s x : Operand) (t e : TypeId)
    (ho : o.op = .call { callee := .builtin .append, args := #[s, x], argTypes := #[t, t] }) (ht : P.underlying t = some (.slice e))
    (hi : (P.info? e).map (fun i => (i.zero, i.size, i.bytes)) = some (some (.int .u8 0), 1, 1)) (B : Nat) (l : List UInt8) (A : Option Addr) (n c : Nat) (hs : a.eval s = .slice A n c) (hn : l.length = n) (hown : OB w B e A c l)
    (k : List UInt8) (ad : Addr) (m c' B' : Nat) (hx : a.eval x = .slice (some ad) m c') (hm : k.length = m) (hR : Rb w B' (some ad) k)
    (hlen : l.length + k.length ≤ 140737488355328) (hbase : B ≤ w.heap.size)
    (h : ∀ A2 c2 w', OB w' B e A2 c2 (l ++ k) → w.grownBy w' (Value.slice A n c).ownBlock → Below B w w' → wpList P ops Q rest (a.put o.dst (.slice A2 (l ++ k).length c2)) w') : wpList P ops Q (o :: rest) a w := by
  subst hn; subst hm
  obtain ⟨i, hi1, hz, hsz, hby⟩ := info_parts hi
  refine wpList_append_own w hgd s x t ho B e i (.int .u8 0) 1 1 ht hi1 hz hsz hby rfl (by decide) _ l.length (l.map u8) hs hown ad k.length c' (k.map u8) hx (by simp) ?_ ?_ (by unfold maxLen; omega) (by omega) hbase ?_
  · intro j u hu
    have hj : j < k.length := by
      rcases Nat.lt_or_ge j k.length with h1 | h1
      · exact h1
      · rw [List.getElem?_eq_none (by simpa using h1)] at hu; cases hu
    rcases hR with h0 | ⟨b, off, e1, _, hc⟩
    · subst h0; simp at hj
    · injection e1 with e1
      subst e1
      have hplain : (⟨b, off, none⟩ : Addr).add j = ⟨b, off + j, none⟩ := by unfold Addr.add; split <;> simp_all
      rw [hplain, hc j hj]
      simp [hj] at hu
      exact congrArg some hu
  · intro u hu
    obtain ⟨b, _, rfl⟩ := List.mem_map.1 hu
    rfl
  · intro v' w' hown' hg _
    have hbel : Below B w w' := (Below.refl B w).grown hg hbase (fun k hk => (World.ownsRow.lt hown k hk).1)
    have hlen' : (l ++ k).length = l.length + k.length := List.length_append
    by_cases h0 : l ++ k = []
    · have h00 : l.length + k.length = 0 := by rw [← hlen', h0]; rfl
      rw [h00] at hown'
      rcases hown'.2 with ⟨rfl, _⟩ | ⟨g, cap, cur, rfl, _, r⟩
      · have := h none 0 w' (by rw [h0]; exact OB.nil w' B e) hg hbel
        rwa [h0] at this
      · have := h (some ⟨g, 0, none⟩) cap w' (by
          rw [h0]
          have e2 : List.map u8 l ++ List.map u8 k = [] := by rw [← List.map_append, h0]; rfl
          rw [e2] at hown'
          exact hown') hg hbel
        rwa [h0] at this
    · have hp : 0 < l.length + k.length := by rw [← hlen']; exact List.length_pos_iff.2 h0
      obtain ⟨g, cap, rfl, _, _⟩ := World.ownsRow.form hown' hp
      have := h (some ⟨g, 0, none⟩) cap w' (by unfold OB; rw [hlen', List.map_append]; exact hown') hg hbel
      rwa [hlen'] at this

/-- The same, the slice of which bytes are appended being nil or not. -/
theorem wp_app_any {P : Program} {ops : Array Oper} {rest : List Oper} {o : Oper} {a : Act} {Q : Exit → Act → World → Prop} {w : World} (hgd : o.guard = none) (s x : Operand) (t e : TypeId)
    (ho : o.op = .call { callee := .builtin .append, args := #[s, x], argTypes := #[t, t] }) (ht : P.underlying t = some (.slice e))
    (hi : (P.info? e).map (fun i => (i.zero, i.size, i.bytes)) = some (some (.int .u8 0), 1, 1)) (B : Nat) (l : List UInt8) (A : Option Addr) (n c : Nat) (hs : a.eval s = .slice A n c) (hn : l.length = n) (hown : OB w B e A c l)
    (k : List UInt8) (A' : Option Addr) (m c' B' : Nat) (hx : a.eval x = .slice A' m c') (hm : k.length = m) (hnil : A' = none → m = 0 ∧ c' = 0) (hR : Rb w B' A' k)
    (hlen : l.length + k.length ≤ 140737488355328) (hbase : B ≤ w.heap.size)
    (h : ∀ A2 c2 w', OB w' B e A2 c2 (l ++ k) → w.grownBy w' (Value.slice A n c).ownBlock → Below B w w' → wpList P ops Q rest (a.put o.dst (.slice A2 (l ++ k).length c2)) w') : wpList P ops Q (o :: rest) a w := by
  cases A' with
  | some ad => exact wp_app hgd s x t e ho ht hi B l A n c hs hn hown k ad m c' B' hx hm hR hlen hbase h
  | none =>
    obtain ⟨rfl, rfl⟩ := hnil rfl
    have hk : k = [] := List.eq_nil_of_length_eq_zero hm
    subst hk
    subst hn
    obtain ⟨i, hi1, hz, hsz, hby⟩ := info_parts hi
    refine wpList_append_own_none hgd s x t ho B e i 1 ht hi1 _ l.length (l.map u8) hs hown hx ?_
    have := h A c w (by simpa using hown) (World.grownBy.refl w _) (Below.refl B w)
    simpa using this

/-- append of a text's bytes. -/
theorem wp_app_str {P : Program} {ops : Array Oper} {rest : List Oper} {o : Oper} {a : Act} {Q : Exit → Act → World → Prop} {w : World} (hgd : o.guard = none) (sl x : Operand) (t u e : TypeId)
    (ho : o.op = .call { callee := .builtin .append, args := #[sl, x], argTypes := #[t, u] }) (ht : P.underlying t = some (.slice e)) (hu : P.underlying u = some .string)
    (hi : (P.info? e).map (fun i => (i.zero, i.size, i.bytes)) = some (some (.int .u8 0), 1, 1)) (B : Nat) (l : List UInt8) (A : Option Addr) (n c : Nat) (hs : a.eval sl = .slice A n c) (hn : l.length = n) (hown : OB w B e A c l)
    (s : ByteArray) (hx : a.eval x = .string s) (hlen : l.length + s.size ≤ 140737488355328) (hbase : B ≤ w.heap.size)
    (h : ∀ A2 c2 w', OB w' B e A2 c2 (l ++ s.data.toList) → w.grownBy w' (Value.slice A n c).ownBlock → Below B w w' → wpList P ops Q rest (a.put o.dst (.slice A2 (l ++ s.data.toList).length c2)) w') : wpList P ops Q (o :: rest) a w := by
  subst hn
  obtain ⟨i, hi1, hz, hsz, hby⟩ := info_parts hi
  refine Go.Lib.wpList_append_own_string (w := w) hgd sl x t u ho B e i ht hu hi1 hz hsz hby _ l.length (l.map u8) hs hown s hx (by unfold maxLen; omega) (by omega) hbase ?_
  intro v' w' hown' hg _
  have hbel : Below B w w' := (Below.refl B w).grown hg hbase (fun k hk => (World.ownsRow.lt hown k hk).1)
  have hsl : s.data.toList.length = s.size := rfl
  have hlen' : (l ++ s.data.toList).length = l.length + s.size := by rw [List.length_append, hsl]
  have hst : Go.Lib.strCells s = s.data.toList.map u8 := rfl
  rw [hst, ← List.map_append] at hown'
  rw [← hlen'] at hown'
  by_cases h0 : l ++ s.data.toList = []
  · rw [h0] at hown'
    rcases hown'.2 with ⟨rfl, _⟩ | ⟨g, cap, cur, rfl, _, r⟩
    · have := h none 0 w' (by rw [h0]; exact OB.nil w' B e) hg hbel
      rwa [h0] at this
    · have := h (some ⟨g, 0, none⟩) cap w' (by rw [h0]; exact hown') hg hbel
      rwa [h0] at this
  · have hp : 0 < (l ++ s.data.toList).length := List.length_pos_iff.2 h0
    obtain ⟨g, cap, rfl, _, _⟩ := World.ownsRow.form hown' hp
    exact h (some ⟨g, 0, none⟩) cap w' hown' hg hbel

/-- make([]byte, 0, c): it owns nothing yet. -/
theorem mk_empty {P : Program} (w : World) (t e : TypeId) (ht : P.underlying t = some (.slice e)) (hi : (P.info? e).map (fun i => (i.zero, i.size, i.bytes)) = some (some (.int .u8 0), 1, 1)) (c : Nat) (hc : c ≤ 140737488355328) (kl kc : IntKind := .i64) :
    (Instr.makeSlice t (.int kl 0) (.int kc (c : Int))).run P w = .ok (.slice (some ⟨w.heap.size, 0, none⟩) 0 c) (w.alloc (.cells (Array.replicate c (.int .u8 0)) e)) := by
  obtain ⟨i, hi1, hz, hs, hb⟩ := info_parts hi
  have h := run_make (P := P) w t e i (.int .u8 0) ht hi1 hz kl kc 0 c (by omega) (by omega) (by rw [hb]; omega) (by omega)
  rw [h]
  have e1 : madeCells #[Value.int .u8 0] c = Array.replicate c (.int .u8 0) := by
    apply Array.ext'; rw [toList_madeCells_one]; simp
  simp [hs, Value.cells, e1]

theorem OB.made (w : World) {B : Nat} (e : TypeId) (c : Nat) (hB : B ≤ w.heap.size) (hc : c ≤ 140737488355328) : OB (w.alloc (.cells (Array.replicate c (.int .u8 0)) e)) B e (some ⟨w.heap.size, 0, none⟩) c [] := by
  have := World.ownsRow_made (base := B) (e := e) (size := 1) w (Array.replicate c (.int .u8 0)) c hB (by unfold maxLen; omega) (by simp)
  exact this

/-- A block of constant bytes, with its mark. -/
theorem Rb.marked {w : World} {t : TypeId} {l : List UInt8} {fr : Nat × Nat} : Rb (w.alloc (.cells (bcells l) t fr)) (w.heap.size + 1) (some ⟨w.heap.size, 0, none⟩) l :=
  .inr ⟨w.heap.size, 0, rfl, by omega, fun i hi => by rw [cell_of_row _ _ _ _ t fr (heap_alloc_new w _), Nat.zero_add, bcells_at l i hi]⟩

/-- One byte that has just been laid into a block of its own. -/
theorem Rb.one {w : World} {n : Nat} {t : TypeId} {c : UInt8} {v : Int} (hn : n = w.heap.size) (hv : v = (c.toNat : Int)) : Rb (w.alloc (.cells #[.int .u8 v] t)) (n + 1) (some ⟨n, 0, none⟩) [c] := by
  subst hv
  exact Rb.bk (t := t) (l := [c]) (Bk.here hn)

end Go.Proofs.Ytpbobmiajjgekaa

/- append as one operation of a region. Nothing of the program is named here. -/
namespace Go.Proofs.Ytpbobmiajjgekaa
set_option linter.unusedVariables false
set_option maxRecDepth 100000
set_option linter.unusedSimpArgs false
open Go.RowKit

/-- append of bytes, as one operation. -/
theorem op_app {P : Program} {o : Oper} {a : Act} {K : Act → World → Prop} {Q : Exit → Act → World → Prop} {w : World} (s x : Operand) (t e : TypeId)
    (ho : o.op = .call { callee := .builtin .append, args := #[s, x], argTypes := #[t, t] }) (ht : P.underlying t = some (.slice e))
    (hi : (P.info? e).map (fun i => (i.zero, i.size, i.bytes)) = some (some (.int .u8 0), 1, 1)) (B : Nat) (l : List UInt8) (A : Option Addr) (n c : Nat) (hs : a.eval s = .slice A n c) (hn : l.length = n) (hown : OB w B e A c l)
    (k : List UInt8) (ad : Addr) (m c' B' : Nat) (hx : a.eval x = .slice (some ad) m c') (hm : k.length = m) (hR : Rb w B' (some ad) k)
    (hlen : l.length + k.length ≤ 140737488355328) (hbase : B ≤ w.heap.size)
    (h : ∀ A2 c2 w', OB w' B e A2 c2 (l ++ k) → w.grownBy w' (Value.slice A n c).ownBlock → Below B w w' → K (a.put o.dst (.slice A2 (l ++ k).length c2)) w') : o.wp P a w K Q := by
  subst hn; subst hm
  obtain ⟨i, hi1, hz, hsz, hby⟩ := info_parts hi
  refine wp_append_own w s x t ho B e i (.int .u8 0) 1 1 ht hi1 hz hsz hby rfl (by decide) _ l.length (l.map u8) hs hown ad k.length c' (k.map u8) hx (by simp) ?_ ?_ (by unfold maxLen; omega) (by omega) hbase ?_
  · intro j u hu
    have hj : j < k.length := by
      rcases Nat.lt_or_ge j k.length with h1 | h1
      · exact h1
      · rw [List.getElem?_eq_none (by simpa using h1)] at hu; cases hu
    rcases hR with h0 | ⟨b, off, e1, _, hc⟩
    · subst h0; simp at hj
    · injection e1 with e1
      subst e1
      rw [add_plain, hc j hj]
      simp [hj] at hu
      exact congrArg some hu
  · intro u hu
    obtain ⟨b, _, rfl⟩ := List.mem_map.1 hu
    rfl
  · intro v' w' hown' hg _
    have hbel : Below B w w' := (Below.refl B w).grown hg hbase (fun k hk => (World.ownsRow.lt hown k hk).1)
    have hlen' : (l ++ k).length = l.length + k.length := List.length_append
    by_cases h0 : l ++ k = []
    · have h00 : l.length + k.length = 0 := by rw [← hlen', h0]; rfl
      rw [h00] at hown'
      rcases hown'.2 with ⟨rfl, _⟩ | ⟨g, cap, cur, rfl, _, r⟩
      · have := h none 0 w' (by rw [h0]; exact OB.nil w' B e) hg hbel
        rwa [h0] at this
      · have := h (some ⟨g, 0, none⟩) cap w' (by
          rw [h0]
          have e2 : List.map u8 l ++ List.map u8 k = [] := by rw [← List.map_append, h0]; rfl
          rw [e2] at hown'
          exact hown') hg hbel
        rwa [h0] at this
    · have hp : 0 < l.length + k.length := by rw [← hlen']; exact List.length_pos_iff.2 h0
      obtain ⟨g, cap, rfl, _, _⟩ := World.ownsRow.form hown' hp
      have := h (some ⟨g, 0, none⟩) cap w' (by unfold OB; rw [hlen', List.map_append]; exact hown') hg hbel
      rwa [hlen'] at this

/-- What the call owns stays owned where nothing that was there has turned. -/
theorem OB.stay {w w' : World} {B B' : Nat} {e : TypeId} {A : Option Addr} {c : Nat} {l : List UInt8} (h : OB w B e A c l) (hb : Below B' w w') (hB : w.heap.size ≤ B') : OB w' B e A c l := by
  refine ⟨h.1, ?_⟩
  rcases h.2 with hn | ⟨g, cap, cur, hv, hg, hh, r⟩
  · exact .inl hn
  · refine .inr ⟨g, cap, cur, hv, hg, ?_, r⟩
    rw [hb.block g (Nat.lt_of_lt_of_le (lt_of_block hh) hB)]
    exact hh

/-- What lies in another block than the row that has grown reads as it did. -/
theorem Rb.grown {w w' : World} {B : Nat} {g : Nat} {l : List UInt8} {row : Option Nat} (h : Rb w B (some ⟨g, 0, none⟩) l) (hg : w.grownBy w' row) (hlt : g < w.heap.size) (hne : row ≠ some g) : Rb w' B (some ⟨g, 0, none⟩) l := by
  rcases h with h | ⟨b, o, e, hb, hc⟩
  · exact .inl h
  · injection e with e
    injection e with e1 e2
    subst e1; subst e2
    exact .inr ⟨g, 0, rfl, hb, fun i hi => hg.cell (hc i hi) (fun h => hne h.symm)⟩

theorem OB.row {w : World} {B : Nat} {e : TypeId} {A : Option Addr} {n c : Nat} {l : List UInt8} (h : OB w B e A c l) (g : Nat) (hn : (Value.slice A n c).ownBlock = some g) : B ≤ g ∧ g < w.heap.size := by
  rcases h.2 with ⟨hv, _⟩ | ⟨g', cap, cur, hv, hb, hh, _⟩
  · injection hv with h1
    subst h1
    cases hn
  · injection hv with h1
    subst h1
    simp [Value.ownBlock] at hn
    subst hn
    exact ⟨hb, lt_of_block hh⟩

/-- The same, what is appended being nil or not. -/
theorem op_app_any {P : Program} {o : Oper} {a : Act} {K : Act → World → Prop} {Q : Exit → Act → World → Prop} {w : World} (s x : Operand) (t e : TypeId)
    (ho : o.op = .call { callee := .builtin .append, args := #[s, x], argTypes := #[t, t] }) (ht : P.underlying t = some (.slice e))
    (hi : (P.info? e).map (fun i => (i.zero, i.size, i.bytes)) = some (some (.int .u8 0), 1, 1)) (B : Nat) (l : List UInt8) (A : Option Addr) (n c : Nat) (hs : a.eval s = .slice A n c) (hn : l.length = n) (hown : OB w B e A c l)
    (k : List UInt8) (A' : Option Addr) (m c' B' : Nat) (hx : a.eval x = .slice A' m c') (hm : k.length = m) (hnil : A' = none → m = 0 ∧ c' = 0) (hR : Rb w B' A' k)
    (hlen : l.length + k.length ≤ 140737488355328) (hbase : B ≤ w.heap.size)
    (h : ∀ A2 c2 w', OB w' B e A2 c2 (l ++ k) → w.grownBy w' (Value.slice A n c).ownBlock → Below B w w' → K (a.put o.dst (.slice A2 (l ++ k).length c2)) w') : o.wp P a w K Q := by
  cases A' with
  | some ad => exact op_app s x t e ho ht hi B l A n c hs hn hown k ad m c' B' hx hm hR hlen hbase h
  | none =>
    obtain ⟨rfl, rfl⟩ := hnil rfl
    have hk : k = [] := List.eq_nil_of_length_eq_zero hm
    subst hk
    subst hn
    obtain ⟨i, hi1, hz, hsz, hby⟩ := info_parts hi
    have hrun := run_append_owned_none (P := P) (w := w) B t o.type e i 1 ht hi1 _ l.length (l.map u8) hown
    unfold Oper.wp
    simp [execOp, ho, resolve, invoke, builtin, hs, hx, hrun, Result.andThen]
    have := h A c w (by simpa using hown) (World.grownBy.refl w _) (Below.refl B w)
    exact (by simpa using this : K (a.put o.dst (Value.slice A l.length c)) w)
/-- append of a text's bytes, as one operation. -/
theorem op_app_str {P : Program} {o : Oper} {a : Act} {K : Act → World → Prop} {Q : Exit → Act → World → Prop} {w : World} (sl x : Operand) (t u e : TypeId)
    (ho : o.op = .call { callee := .builtin .append, args := #[sl, x], argTypes := #[t, u] }) (ht : P.underlying t = some (.slice e)) (hu : P.underlying u = some .string)
    (hi : (P.info? e).map (fun i => (i.zero, i.size, i.bytes)) = some (some (.int .u8 0), 1, 1)) (B : Nat) (l : List UInt8) (A : Option Addr) (n c : Nat) (hs : a.eval sl = .slice A n c) (hn : l.length = n) (hown : OB w B e A c l)
    (s : ByteArray) (hx : a.eval x = .string s) (hlen : l.length + s.size ≤ 140737488355328) (hbase : B ≤ w.heap.size)
    (h : ∀ A2 c2 w', OB w' B e A2 c2 (l ++ s.data.toList) → w.grownBy w' (Value.slice A n c).ownBlock → Below B w w' → K (a.put o.dst (.slice A2 (l ++ s.data.toList).length c2)) w') : o.wp P a w K Q := by
  subst hn
  obtain ⟨i, hi1, hz, hsz, hby⟩ := info_parts hi
  obtain ⟨v', w', hr, hown', hg, _⟩ := Go.Lib.run_append_own_string (P := P) w B t u o.type e i ht hu hi1 hz hsz hby _ l.length (l.map u8) hown s (by unfold maxLen; omega) (by omega) hbase
  have hK : K (a.put o.dst v') w' := by
    have hbel : Below B w w' := (Below.refl B w).grown hg hbase (fun k hk => (World.ownsRow.lt hown k hk).1)
    have hsl : s.data.toList.length = s.size := rfl
    have hlen' : (l ++ s.data.toList).length = l.length + s.size := by rw [List.length_append, hsl]
    have hst : Go.Lib.strCells s = s.data.toList.map u8 := rfl
    rw [hst, ← List.map_append] at hown'
    rw [← hlen'] at hown'
    by_cases h0 : l ++ s.data.toList = []
    · rw [h0] at hown'
      rcases hown'.2 with ⟨rfl, _⟩ | ⟨g, cap, cur, rfl, _, r⟩
      · have := h none 0 w' (by rw [h0]; exact OB.nil w' B e) hg hbel
        rwa [h0] at this
      · have := h (some ⟨g, 0, none⟩) cap w' (by rw [h0]; exact hown') hg hbel
        rwa [h0] at this
    · have hp : 0 < (l ++ s.data.toList).length := List.length_pos_iff.2 h0
      obtain ⟨g, cap, rfl, _, _⟩ := World.ownsRow.form hown' hp
      exact h (some ⟨g, 0, none⟩) cap w' hown' hg hbel
  unfold Oper.wp execOp
  simp only [ho, resolve, invoke, builtin, Sem.run_bind, Sem.run_pure, Result.andThen_ok, List.map_toArray, List.map_cons, List.map_nil, hs, hx, hr]
  exact hK
/-- An operation whose guard is met. -/
theorem wpList_wanted {P : Program} {ops : Array Oper} {Q : Exit → Act → World → Prop} {a : Act} {w : World} {rest : List Oper} {o : Oper} (hw : Region.wanted o (yielded ops a.tmps) = true)
    (h : ∀ K : Act → World → Prop, (∀ a w, wpList P ops Q rest a w → K a w) → o.wp P a w K Q) : wpList P ops Q (o :: rest) a w :=
  wpList_step fun K hK => by simp only [hw, if_true]; exact h K hK
theorem OB.drew {w : World} {B : Nat} {e : TypeId} {A : Option Addr} {c : Nat} {l : List UInt8} (h : OB w B e A c l) : OB w.drew B e A c l := World.ownsRow.drew h
theorem Rb.two {w : World} {t : TypeId} {a b : UInt8} : Rb (w.alloc (.cells #[.int .u8 (a.toNat : Int), .int .u8 (b.toNat : Int)] t)) (w.heap.size + 1) (some ⟨w.heap.size, 0, none⟩) [a, b] := Rb.bk (t := t) (l := [a, b]) (Bk.new w t _)
end Go.Proofs.Ytpbobmiajjgekaa
