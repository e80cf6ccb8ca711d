/- MinY, RgHead, RgOps, RgLaw: texts of this seat, one behind the other. -/
import Derived.Test.YtndamiocmdnenaaGreatG1
import Derived.WalkKit
import Derived.Lib.Hide
import Derived.Test.YtndamiocmdnenaaGreatRing3
import Derived.Deep.Strs
/- min as one operation of a region that draws its order. -/
namespace Go.Proofs.YtndamiocmdnenaaGreat
set_option linter.unusedVariables false
set_option maxRecDepth 100000
set_option linter.unusedSimpArgs false
open Go.RowKit

theorem yieldsIf_min {P : Program} {ops : Array Oper} {S : World → Prop} {oi : Oper} {a : Act} (hw : Region.wanted oi (yielded ops a.tmps) = true) (x y : Operand) (t : TypeId) (ho : oi.op = .call { callee := .builtin .min, args := #[x, y], argTypes := #[t, t] }) (u v m : Int) (hx : a.eval x = .int .i64 u) (hy : a.eval y = .int .i64 v) (hm : min u v = m) : YieldsIf P ops S oi (.int .i64 m) a :=
  .inl ⟨hw, fun w _ => by
    have e : (if v < u then v else u) = min u v := by split <;> omega
    have hr : (Builtin.min_ #[t, t] oi.type #[.int .i64 u, .int .i64 v]).run P w = .ok (.int .i64 (min u v)) w := by rw [← e]; simp [Builtin.min_, Builtin.min2]
    unfold execOp
    simp only [ho, resolve, invoke, builtin, Sem.run_bind, Sem.run_pure, Result.andThen_ok, List.map_toArray, List.map_cons, List.map_nil, hx, hy, hr, hm]⟩
end Go.Proofs.YtndamiocmdnenaaGreat

/- The head of ring's laws: its live question is always answered yes. -/
namespace Go.Proofs.YtndamiocmdnenaaGreat
set_option linter.unusedVariables false
set_option maxRecDepth 100000
set_option linter.unusedSimpArgs false
open Go.RowKit

/-- New, its blocks being letters. -/
theorem new_at (x : Int) (u : World) :
    Calls Tryz.prog 85 #[.int .i64 x] u fun e u' => ∃ r g, e = .returned (.pointer (some ⟨r, 0, none⟩)) ∧ Rg u' r g (mostM x) [] ∧ Ke [] u u' ∧ u.heap.size ≤ r ∧ u.heap.size ≤ g :=
  (new_ok x u).mono fun e u' ⟨h1, h2, h3⟩ => ⟨_, _, h1, h2, h3, by omega, by omega⟩
/-- A row of bytes that was just laid, at a block that is none of the ring's. -/
theorem lit_far {u : World} {r g : Nat} {t : TypeId} {l : List UInt8} {fr : Nat × Nat} (hr : r < u.heap.size) (hg : g < u.heap.size) : Rf (u.alloc (.cells (bcells l) t fr)) [r, g] (some ⟨u.heap.size, 0, none⟩) l :=
  .inr ⟨u.heap.size, 0, rfl, by simp; omega, by rw [World.size_alloc]; omega, fun i hi => by rw [cell_of_row _ _ _ _ t fr (heap_alloc_new u _), Nat.zero_add, bcells_at l i hi]⟩
theorem Ke.one (L : List Nat) (u : World) (o : Obj) : Ke L u (u.alloc o) := (Ke.refl L u).alloc o

end Go.Proofs.YtndamiocmdnenaaGreat

/- The calls that come in: a slice of structs of a number, a slice of bytes, and a number. -/
namespace Go.Proofs.YtndamiocmdnenaaGreat
set_option linter.unusedVariables false
set_option maxRecDepth 100000
set_option linter.unusedSimpArgs false
open Go.ChangeShapes Go.WideShapes Go.ChangeAt Go.RowKit

/-- A call: what it is, the bytes of Add (where they lie, in a slice of which capacity), the number of Take. -/
structure OpM where
  what : Int
  A : Option Addr
  c : Nat
  l : List UInt8
  x : Int

/-- The bytes of a call lie below block B. -/
structure OpOk (w : World) (B : Nat) (m : OpM) : Prop where
  rb : Rb w B m.A m.l
  cap : m.l.length ≤ m.c
  max : m.c ≤ 9223372036854775807
  nil_ : m.A = none → m.l.length = 0 ∧ m.c = 0

/-- The slice at A reads as the calls L, and lies below block B. -/
def RgRo (w : World) (B : Nat) (A : Option Addr) (L : List OpM) : Prop :=
  L = [] ∨ ∃ b o, A = some ⟨b, o, none⟩ ∧ b < B ∧ ∀ i, (h : i < L.length) → w.cell? ⟨b, o + i * 3, none⟩ = some (.int .i64 L[i].what) ∧ w.cell? ⟨b, o + i * 3 + 1, none⟩ = some (.slice L[i].A L[i].l.length L[i].c) ∧ w.cell? ⟨b, o + i * 3 + 2, none⟩ = some (.int .i64 L[i].x) ∧ OpOk w B L[i]

theorem OpOk.below {w w' : World} {B B' : Nat} {m : OpM} (h : OpOk w B m) (hb : Below B' w w') (hB : B ≤ B') : OpOk w' B m := ⟨h.rb.below hb hB, h.cap, h.max, h.nil_⟩
theorem RgRo.below {w w' : World} {B B' : Nat} {A : Option Addr} {L : List OpM} (h : RgRo w B A L) (hb : Below B' w w') (hB : B ≤ B') : RgRo w' B A L := by
  rcases h with h | ⟨b, o, e, hlt, hc⟩
  · exact .inl h
  · refine .inr ⟨b, o, e, hlt, fun i hi => ?_⟩
    obtain ⟨h1, h2, h3, h4⟩ := hc i hi
    exact ⟨(hb.cell (p := ⟨b, o + i * 3, none⟩) (by show b < B'; omega)).trans h1, (hb.cell (p := ⟨b, o + i * 3 + 1, none⟩) (by show b < B'; omega)).trans h2, (hb.cell (p := ⟨b, o + i * 3 + 2, none⟩) (by show b < B'; omega)).trans h3, h4.below hb hB⟩

/-- A slice of calls that came in. -/
structure InO (W : World) (A : Option Addr) (L : List OpM) (n c : Nat) : Prop where
  ro : RgRo W W.heap.size A L
  len : L.length = n
  cap : n ≤ c
  max : c ≤ maxLen
  nil_ : A = none → n = 0 ∧ c = 0

theorem RgRo.at_ {w : World} {B : Nat} {A : Option Addr} {L : List OpM} (h : RgRo w B A L) (i : Nat) (hi : i < L.length) :
    ∃ b o m, A = some ⟨b, o, none⟩ ∧ L[i]? = some m ∧ w.cell? ⟨b, o + i * 3, none⟩ = some (.int .i64 m.what) ∧ w.cell? ⟨b, o + i * 3 + 1, none⟩ = some (.slice m.A m.l.length m.c) ∧ w.cell? ⟨b, o + i * 3 + 2, none⟩ = some (.int .i64 m.x) ∧ OpOk w B m := by
  rcases h with h | ⟨b, o, e, _, hc⟩
  · subst h; simp at hi
  · exact ⟨b, o, L[i], e, List.getElem?_eq_getElem hi, hc i hi⟩

/-- A yes or a no; at a no there are few calls. -/
def GrB (n : Nat) (e : Ending) : Prop := ∃ v : Bool, e = .returned (.bool v) ∧ (v = false → n ≤ 400)

end Go.Proofs.YtndamiocmdnenaaGreat

/- Words for the walks of ring's laws. -/
namespace Go.Proofs.YtndamiocmdnenaaGreat
set_option linter.unusedVariables false
set_option maxRecDepth 100000
set_option linter.unusedSimpArgs false
open Go.RowKit

theorem Below.ke {B : Nat} {W u u' : World} {L : List Nat} (h : Below B W u) (k : Ke L u u') (hB : B ≤ W.heap.size) (hL : ∀ x ∈ L, B ≤ x) : Below B W u' := h.trans (k.below (Nat.le_trans hB h.size) hL)
theorem OB.ke {w w' : World} {B : Nat} {e : TypeId} {A : Option Addr} {c : Nat} {l : List UInt8} {L : List Nat} (h : OB w B e A c l) (k : Ke L w w') (hL : ∀ x ∈ L, x < B) : OB w' B e A c l := by
  refine ⟨h.1, ?_⟩
  rcases h.2 with hn | ⟨g, cap, cur, hv, hg, hh, r⟩
  · exact .inl hn
  · refine .inr ⟨g, cap, cur, hv, hg, ?_, r⟩
    rw [k.block g (lt_of_block hh) (fun hx => by have := hL g hx; omega)]
    exact hh

/-- The three cells of a call. -/
def Oc (w : World) (b o i : Nat) (m : OpM) : Prop := w.cell? ⟨b, o + i * 3, none⟩ = some (.int .i64 m.what) ∧ w.cell? ⟨b, o + i * 3 + 1, none⟩ = some (.slice m.A m.l.length m.c) ∧ w.cell? ⟨b, o + i * 3 + 2, none⟩ = some (.int .i64 m.x)
/-- Of the calls that came in, in every later world. -/
theorem InO.at_ {W : World} {A : Option Addr} {L : List OpM} {n c : Nat} (h : InO W A L n c) (i : Nat) (hi : i < n) :
    ∃ b o m, A = some ⟨b, o, none⟩ ∧ L[i]? = some m ∧ ∀ u, Below W.heap.size W u → Oc u b o i m ∧ OpOk u W.heap.size m := by
  rcases h.ro with h0 | ⟨b, o, e, hb, hc⟩
  · have := h.len
    rw [h0] at this
    simp at this
    omega
  · have hi' : i < L.length := by rw [h.len]; exact hi
    obtain ⟨h1, h2, h3, h4⟩ := hc i hi'
    refine ⟨b, o, L[i], e, List.getElem?_eq_getElem hi', fun u hu => ⟨⟨?_, ?_, ?_⟩, h4.below hu (Nat.le_refl _)⟩⟩
    · exact (hu.cell (p := ⟨b, o + i * 3, none⟩) hb).trans h1
    · exact (hu.cell (p := ⟨b, o + i * 3 + 1, none⟩) hb).trans h2
    · exact (hu.cell (p := ⟨b, o + i * 3 + 2, none⟩) hb).trans h3

theorem u8_nat {x : Int} (h : (Lit.int .u8 x).wf = true) : ∃ M : Nat, x = (M : Int) ∧ M ≤ 255 := by
  have e1 : IntKind.u8.min = 0 := by decide
  have e2 : IntKind.u8.max = 255 := by decide
  simp only [Lit.wf, e1, e2, Bool.and_eq_true, decide_eq_true_eq] at h
  exact ⟨x.toNat, by omega, by omega⟩
theorem mostM_nat (M : Nat) (h : M ≤ 65536) : mostM (M : Int) = M := by unfold mostM; omega

/-- New of a number of a byte's size, in a world of the law's. -/
theorem new_law (M : Nat) (hM : M ≤ 65536) (W u : World) (h : Below W.heap.size W u) :
    Calls Tryz.prog 85 #[.int .i64 (M : Int)] u fun e u' => ∃ r g, e = .returned (.pointer (some ⟨r, 0, none⟩)) ∧ Rg u' r g M [] ∧ Below W.heap.size W u' ∧ Ke [] u u' ∧ u.heap.size ≤ r ∧ u.heap.size ≤ g := by
  refine (new_at (M : Int) u).mono fun e u' ⟨r, g, h1, h2, h3, h4, h5⟩ => ⟨r, g, h1, ?_, Below.ke h h3 (Nat.le_refl _) (by simp), h3, h4, h5⟩
  rw [mostM_nat M hM] at h2
  exact h2

/-- A ring of the law's own: its blocks lie behind all that came in. -/
structure RgRw (W u : World) (r g m : Nat) (q : List UInt8) : Prop where
  rg : Rg u r g m q
  b : Below W.heap.size W u
  lr : W.heap.size ≤ r
  lg : W.heap.size ≤ g
theorem RgRw.ke {W u u' : World} {r g m : Nat} {q : List UInt8} (h : RgRw W u r g m q) (k : Ke [] u u') : RgRw W u' r g m q := ⟨h.rg.ke k (by simp) (by simp), Below.ke h.b k (Nat.le_refl _) (by simp), h.lr, h.lg⟩

theorem rgw_many {W u : World} {r g m : Nat} {q : List UInt8} (h : RgRw W u r g m q) (k : Nat) (hk : q.length = k) : Calls Tryz.prog 77 #[.pointer (some ⟨r, 0, none⟩)] u fun e u' => e = .returned (.int .i64 (k : Int)) ∧ u' = u := hk ▸ many_ok r g m q u h.rg
theorem rgw_room {W u : World} {r g m : Nat} {q : List UInt8} (h : RgRw W u r g m q) (s : Nat) (hs : m - q.length = s) : Calls Tryz.prog 80 #[.pointer (some ⟨r, 0, none⟩)] u fun e u' => e = .returned (.int .i64 (s : Int)) ∧ Ke [] u u' ∧ RgRw W u' r g m q :=
  hs ▸ (room_ok r g m q u h.rg).mono fun e u' ⟨h1, h2⟩ => ⟨h1, h2, h.ke h2⟩
theorem rgw_look {W u : World} {r g m : Nat} {q : List UInt8} (h : RgRw W u r g m q) (k : Nat) (hk : q.length = k) : Calls Tryz.prog 88 #[.pointer (some ⟨r, 0, none⟩)] u fun e u' => e = .returned (.slice (some ⟨u.heap.size, 0, none⟩) k k) ∧ Bk u' u.heap.size 5 (bcells q) ∧ Ke [] u u' ∧ RgRw W u' r g m q :=
  hk ▸ (look_ok r g m q u h.rg).mono fun e u' ⟨h1, h2, h3⟩ => ⟨h1, h2, h3, h.ke h3⟩
theorem rgw_take {W u : World} {r g m : Nat} {q : List UInt8} (h : RgRw W u r g m q) (x : Int) (k t : Nat) (hk : q.length = k) (ht : takeM x k = t) : Calls Tryz.prog 75 #[.pointer (some ⟨r, 0, none⟩), .int .i64 x] u fun e u' => e = .returned (.slice (some ⟨u.heap.size, 0, none⟩) t t) ∧ Bk u' u.heap.size 5 (bcells (q.take t)) ∧ Ke [r] u u' ∧ RgRw W u' r g m (q.drop t) := by
  subst hk; subst ht
  exact (take_ok r g m x q u h.rg).mono fun e u' ⟨h1, h2, h3, h4⟩ => ⟨h1, h2, h4, h3, Below.ke h.b h4 (Nat.le_refl _) (by have := h.lr; simp; omega), h.lr, h.lg⟩
theorem rgw_add {W u : World} {r g m : Nat} {q : List UInt8} (h : RgRw W u r g m q) (A : Option Addr) (n c : Nat) (l : List UInt8) (hl : l.length = n) (hc : n ≤ c) (hcm : c ≤ 9223372036854775807) (hR : Rf u [r, g] A l) (s x : Nat) (hs : m - q.length = s) (hx : min n s = x) :
    Calls Tryz.prog 86 #[.pointer (some ⟨r, 0, none⟩), .slice A n c] u fun e u' => e = .returned (.int .i64 (x : Int)) ∧ Ke [r, g] u u' ∧ RgRw W u' r g m (q ++ l.take s) := by
  subst hx; subst hs
  exact (add_ok r g m A n c l q u h.rg hl hc hcm hR).mono fun e u' ⟨h1, h2, h3⟩ => ⟨h1, h3, h2, Below.ke h.b h3 (Nat.le_refl _) (by have := h.lr; have := h.lg; simp; omega), h.lr, h.lg⟩
/-- Add of a call's bytes. -/
theorem w_add_op {W u : World} {r g m : Nat} {q : List UInt8} (h : RgRw W u r g m q) (z : OpM) (hz : OpOk u W.heap.size z) (n s x : Nat) (hn : z.l.length = n) (hs : m - q.length = s) (hx : min n s = x) :
    Calls Tryz.prog 86 #[.pointer (some ⟨r, 0, none⟩), .slice z.A n z.c] u fun e u' => e = .returned (.int .i64 (x : Int)) ∧ Ke [r, g] u u' ∧ RgRw W u' r g m (q ++ z.l.take s) :=
  rgw_add h z.A n z.c z.l hn (hn ▸ hz.cap) hz.max (hz.rb.rf (by have := h.lr; have := h.lg; simp; omega)) s x hs hx
theorem take_min (x X : Int) (k t : Nat) (hX : max x 0 = X) (ht : takeM x k = t) : min X (k : Int) = (t : Int) := by
  subst hX; subst ht
  unfold takeM
  omega
theorem RgRw.of {W u : World} {r g m : Nat} {q : List UInt8} (h : Rg u r g m q) (b : Below W.heap.size W u) (hr : W.heap.size ≤ r) (hg : W.heap.size ≤ g) : RgRw W u r g m q := ⟨h, b, hr, hg⟩
end Go.Proofs.YtndamiocmdnenaaGreat
