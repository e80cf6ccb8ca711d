/- The calls that come in: a slice of structs of a number, a slice of bytes, and a number. -/
import Derived.Test.YtpomeimjgbblmaaRing3
import Derived.Deep.Strs
namespace Go.Proofs.Ytpomeimjgbblmaa
set_option linter.unusedVariables false
set_option maxRecDepth 100000
set_option linter.unusedSimpArgs false
open Go.ChangeShapes Go.WideShapes Go.ChangeAt Go.RowKit

/-- A call: what it is, the bytes of Add (where they lie, in a slice of which capacity), the number of Take. -/
structure OpM where
  what : Int
  A : Option Addr
  c : Nat
  l : List UInt8
  x : Int

/-- The bytes of a call lie below block B. -/
structure OpOk (w : World) (B : Nat) (m : OpM) : Prop where
  rb : Rb w B m.A m.l
  cap : m.l.length ≤ m.c
  max : m.c ≤ 9223372036854775807
  nil_ : m.A = none → m.l.length = 0 ∧ m.c = 0

/-- The slice at A reads as the calls L, and lies below block B. -/
def Ro (w : World) (B : Nat) (A : Option Addr) (L : List OpM) : Prop :=
  L = [] ∨ ∃ b o, A = some ⟨b, o, none⟩ ∧ b < B ∧ ∀ i, (h : i < L.length) → w.cell? ⟨b, o + i * 3, none⟩ = some (.int .i64 L[i].what) ∧ w.cell? ⟨b, o + i * 3 + 1, none⟩ = some (.slice L[i].A L[i].l.length L[i].c) ∧ w.cell? ⟨b, o + i * 3 + 2, none⟩ = some (.int .i64 L[i].x) ∧ OpOk w B L[i]

theorem OpOk.below {w w' : World} {B B' : Nat} {m : OpM} (h : OpOk w B m) (hb : Below B' w w') (hB : B ≤ B') : OpOk w' B m := ⟨h.rb.below hb hB, h.cap, h.max, h.nil_⟩
theorem Ro.below {w w' : World} {B B' : Nat} {A : Option Addr} {L : List OpM} (h : Ro w B A L) (hb : Below B' w w') (hB : B ≤ B') : Ro w' B A L := by
  rcases h with h | ⟨b, o, e, hlt, hc⟩
  · exact .inl h
  · refine .inr ⟨b, o, e, hlt, fun i hi => ?_⟩
    obtain ⟨h1, h2, h3, h4⟩ := hc i hi
    exact ⟨(hb.cell (p := ⟨b, o + i * 3, none⟩) (by show b < B'; omega)).trans h1, (hb.cell (p := ⟨b, o + i * 3 + 1, none⟩) (by show b < B'; omega)).trans h2, (hb.cell (p := ⟨b, o + i * 3 + 2, none⟩) (by show b < B'; omega)).trans h3, h4.below hb hB⟩

/-- A slice of calls that came in. -/
structure InO (W : World) (A : Option Addr) (L : List OpM) (n c : Nat) : Prop where
  ro : Ro W W.heap.size A L
  len : L.length = n
  cap : n ≤ c
  max : c ≤ maxLen
  nil_ : A = none → n = 0 ∧ c = 0

theorem Ro.at_ {w : World} {B : Nat} {A : Option Addr} {L : List OpM} (h : Ro w B A L) (i : Nat) (hi : i < L.length) :
    ∃ b o m, A = some ⟨b, o, none⟩ ∧ L[i]? = some m ∧ w.cell? ⟨b, o + i * 3, none⟩ = some (.int .i64 m.what) ∧ w.cell? ⟨b, o + i * 3 + 1, none⟩ = some (.slice m.A m.l.length m.c) ∧ w.cell? ⟨b, o + i * 3 + 2, none⟩ = some (.int .i64 m.x) ∧ OpOk w B m := by
  rcases h with h | ⟨b, o, e, _, hc⟩
  · subst h; simp at hi
  · exact ⟨b, o, L[i], e, List.getElem?_eq_getElem hi, hc i hi⟩

/-- A yes or a no; at a no there are few calls. -/
def GrB (n : Nat) (e : Ending) : Prop := ∃ v : Bool, e = .returned (.bool v) ∧ (v = false → n ≤ 400)

end Go.Proofs.Ytpomeimjgbblmaa
