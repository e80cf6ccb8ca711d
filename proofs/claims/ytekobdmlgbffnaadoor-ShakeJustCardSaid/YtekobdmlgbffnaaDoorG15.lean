/- SkIn, SClone, Wire1, VtG, CgT0, Cat, CgT1: texts of this seat, one behind the other. -/
import Derived.Test.YtekobdmlgbffnaaDoorG14
import Derived.Test.YtekobdmlgbffnaaDoorG1
import Derived.Test.YtekobdmlgbffnaaDoorShelf
import Derived.Test.YtekobdmlgbffnaaDoorG10
import Derived.Test.YtekobdmlgbffnaaDoorRows
import Derived.Test.YtekobdmlgbffnaaDoorG6
import Derived.BigRegion
import Derived.Deep.Cut
import Derived.Deep.CutRange
import Derived.Deep.RegionHeld3
import Derived.Test.YtekobdmlgbffnaaDoorG3
import Derived.Test.YtekobdmlgbffnaaDoorG9
import Derived.Laws.Concat
import Derived.Test.YtekobdmlgbffnaaDoorG8
/- Calls of a hand-shake that came in: a slice of structs of a number, a message, a number and a text. -/
namespace Go.Proofs.YtekobdmlgbffnaaDoor
set_option linter.unusedVariables false
set_option maxRecDepth 100000
set_option linter.unusedSimpArgs false
open Go.ChangeShapes Go.WideShapes Go.ChangeAt Go.RowKit Go.Deep

structure So where
  what : Int
  m : Mg
  now : Int
  nn : ByteArray
abbrev soc (x : So) : Array Value := #[.int .i64 x.what, .int .i64 x.m.k, .string x.m.a, .string x.m.b, .int .i64 x.m.n, .int .i64 x.m.m, .int .i64 x.now, .string x.nn]
def So.sm (x : So) : Prop := x.m.a.size ≤ 140737488355328 ∧ x.m.b.size ≤ 140737488355328 ∧ x.nn.size ≤ 140737488355328
instance : Inhabited So := ⟨⟨0, ⟨0, ByteArray.empty, ByteArray.empty, 0, 0⟩, 0, ByteArray.empty⟩⟩
structure InSk (W : World) (A : Option Addr) (l : List So) (c : Nat) : Prop where
  r : Rw 8 soc W A l
  f : Fit A l.length c
  n : l.length ≤ 140737488355328
  sm : ∀ x ∈ l, x.sm
theorem InSk.on {w w' : World} {A : Option Addr} {l : List So} {c : Nat} (h : InSk w A l c) (hb : Below w.heap.size w w') : InSk w' A l c := ⟨h.r.on hb, h.f, h.n, h.sm⟩
theorem InSk.at8 {w : World} {A : Option Addr} {l : List So} {c : Nat} (h : InSk w A l c) (i : Nat) (hi : i < l.length) :
    ∃ b o x, A = some ⟨b, o, none⟩ ∧ l[i]? = some x ∧ x.sm ∧ ∀ u, Below w.heap.size w u → u.cell? ⟨b, o + i * 8, none⟩ = some (.int .i64 x.what) ∧ u.cell? ⟨b, o + i * 8 + 1, none⟩ = some (.int .i64 x.m.k) ∧ u.cell? ⟨b, o + i * 8 + 2, none⟩ = some (.string x.m.a) ∧ u.cell? ⟨b, o + i * 8 + 3, none⟩ = some (.string x.m.b) ∧ u.cell? ⟨b, o + i * 8 + 4, none⟩ = some (.int .i64 x.m.n) ∧ u.cell? ⟨b, o + i * 8 + 5, none⟩ = some (.int .i64 x.m.m) ∧ u.cell? ⟨b, o + i * 8 + 6, none⟩ = some (.int .i64 x.now) ∧ u.cell? ⟨b, o + i * 8 + 7, none⟩ = some (.string x.nn) := by
  obtain ⟨b, o, x, h1, h2, h3⟩ := Rw.at_ h.r i hi
  exact ⟨b, o, x, h1, h2, h.sm x (List.mem_of_getElem? h2), fun u hb => ⟨h3 u hb 0 (by omega), h3 u hb 1 (by omega), h3 u hb 2 (by omega), h3 u hb 3 (by omega), h3 u hb 4 (by omega), h3 u hb 5 (by omega), h3 u hb 6 (by omega), h3 u hb 7 (by omega)⟩⟩

section
variable {H : Type} {enc : TypeId × Value → H} {P : Program} {W : World} {e : TypeId}
/-- One field of a struct, of however many cells. -/
theorem open_part {fs : Array Field} {cs : List Value} {y : DataW H × List MemPlace} {fuel : Nat} (he : P.underlying e = some (.struct fs)) (h : DataW.trod enc P W 0 (fun _ => true) true fuel e cs = some y) (hw : Wt P e y.1)
    (i : Nat) (f : Field) (hf : fs[i]? = some f) : ∃ n z, DataW.trod enc P W 0 (fun _ => true) true n f.type ((cs.drop f.offset).take (P.cellsOf f.type)) = some z ∧ Wt P f.type z.1 := by
  obtain ⟨xs, n, _, hx, _, hlen, hg⟩ := DataW.trod_struct he h
  subst hx
  have hi : i < fs.size := (Array.getElem?_eq_some_iff.1 hf).1
  have h1 := hg i f hf
  refine ⟨n, xs[i]'(by omega), h1.trans (List.getElem?_eq_getElem (by omega)), Wt.part he hw hf ?_⟩
  rw [List.getElem?_map, List.getElem?_eq_getElem (by omega)]; rfl
end
theorem skop_fields : ∃ f0 f1 f2 f3, Tryd.prog.underlying 38 = some (.struct #[f0, f1, f2, f3]) ∧ (f0.type = 3 ∧ f1.type = 34 ∧ f2.type = 2 ∧ f3.type = 9) ∧ (f0.offset = 0 ∧ f1.offset = 1 ∧ f2.offset = 6 ∧ f3.offset = 7) ∧ (Tryd.prog.cellsOf f0.type = 1 ∧ Tryd.prog.cellsOf f1.type = 5 ∧ Tryd.prog.cellsOf f2.type = 1 ∧ Tryd.prog.cellsOf f3.type = 1) := ⟨_, _, _, _, Tryd.underlying38, ⟨rfl, rfl, rfl, rfl⟩, ⟨by kernel_rfl, by kernel_rfl, by kernel_rfl, by kernel_rfl⟩, by kernel_rfl, by kernel_rfl, by kernel_rfl, by kernel_rfl⟩
theorem skm_fields : ∃ f0 f1 f2 f3 f4, Tryd.prog.underlying 34 = some (.struct #[f0, f1, f2, f3, f4]) ∧ f0.type = 3 ∧ f1.type = 9 ∧ f2.type = 9 ∧ f3.type = 2 ∧ f4.type = 2 ∧ oneCellFields Tryd.prog #[f0, f1, f2, f3, f4] = true :=
  ⟨_, _, _, _, _, Tryd.underlying34, rfl, rfl, rfl, rfl, rfl, by kernel_rfl⟩
theorem eightV {cs : List Value} (h : cs.length = 8) : ∃ a b c d e f g i, cs = [a, b, c, d, e, f, g, i] := by
  match cs, h with
  | [a, b, c, d, e, f, g, i], _ => exact ⟨a, b, c, d, e, f, g, i, rfl⟩
set_option maxRecDepth 100000 in
theorem open_skops {H : Type} {enc : TypeId × Value → H} {W : World} {r : Reach} {b0 : Nat} {v : Value} {d : DataW H} {p : List MemPlace} {ts : List TypeId} {ds : List (DataW H)} {j : Nat} (hv : Value.okWide Tryd.prog W r b0 25 v) (h : DataW.Trod enc Tryd.prog W 0 (fun _ => true) true 25 v d p)
    (hz : (DataW.weightsEach Tryd.prog ts ds).all (· ≤ reachBytes) = true) (hj : ts[j]? = some 25) (hd : ds[j]? = some d) : ∃ A c, ∃ l : List So, v = .slice A l.length c ∧ InSk W A l c := by
  obtain ⟨f0, f1, f2, f3, hu, ⟨t0, t1, t2, t3⟩, ⟨o0, o1, o2, o3⟩, k0, k1, k2, k3⟩ := skop_fields
  obtain ⟨g0, g1, g2, g3, g4, hu', s0, s1, s2, s3, s4, hone⟩ := skm_fields
  obtain ⟨A0, n0, c0, rfl⟩ := okWide_slice Tryd.underlying25 hv
  obtain ⟨fuel, hfu⟩ := h
  have hw : Wt Tryd.prog 25 d := fun n hn => by
    have := List.all_eq_true.1 hz _ (DataW.weights_mem_each hj hd n hn)
    simpa using this
  have hfu' : DataW.trod enc Tryd.prog W 0 (fun _ => true) true fuel 25 [.slice A0 n0 c0] = some (d, p) := hfu
  have h0 := open_each Tryd.underlying25 hu (k := 8) (by kernel_rfl) (of_decide_eq_true (by kernel_rfl)) hfu' hw
  obtain ⟨l, hl, h1, h2, h3, h4⟩ := rw_of (β := So) (k := 8) (by omega) (f := soc) (p := fun x => x.sm) (R := reachBytes) (W := W) (A := A0) (n := n0) (c := c0) (h0.imp id fun ⟨a, e, k1', k2', k3', k4'⟩ => ⟨a, e, k1', k2', k3', fun i hi => by
    obtain ⟨cs, fuel', y, q1, q2, q3, q4⟩ := k4' i hi
    obtain ⟨v0, v1, v2, v3, v4, v5, v6, v7, rfl⟩ := eightV q1
    obtain ⟨n0, z0, r0, _⟩ := open_part hu q3 q4 0 f0 rfl
    obtain ⟨n1, z1, r1, y1⟩ := open_part hu q3 q4 1 f1 rfl
    obtain ⟨n2, z2, r2, _⟩ := open_part hu q3 q4 2 f2 rfl
    obtain ⟨n3, z3, r3, y3⟩ := open_part hu q3 q4 3 f3 rfl
    rw [o0, k0, t0] at r0
    rw [o1, k1, t1] at r1
    rw [t1] at y1
    rw [o2, k2, t2] at r2
    rw [o3, k3, t3] at r3
    rw [t3] at y3
    simp only [List.drop_zero, List.drop_succ_cons, List.take_succ_cons, List.take_zero] at r0 r1 r2 r3
    obtain ⟨_, _, i0, _⟩ := open_field hu' hone r1 y1 0 g0 rfl v1 rfl
    obtain ⟨_, _, i1, j1⟩ := open_field hu' hone r1 y1 1 g1 rfl v2 rfl
    obtain ⟨_, _, i2, j2⟩ := open_field hu' hone r1 y1 2 g2 rfl v3 rfl
    obtain ⟨_, _, i3, _⟩ := open_field hu' hone r1 y1 3 g3 rfl v4 rfl
    obtain ⟨_, _, i4, _⟩ := open_field hu' hone r1 y1 4 g4 rfl v5 rfl
    rw [s0] at i0
    rw [s1] at i1 j1
    rw [s2] at i2 j2
    rw [s3] at i3
    rw [s4] at i4
    obtain ⟨x0, rfl, _⟩ := open_num Tryd.underlying3 r0
    obtain ⟨x1, rfl, _⟩ := open_num Tryd.underlying3 i0
    obtain ⟨x2, rfl, w2⟩ := open_str Tryd.underlying9 i1 j1
    obtain ⟨x3, rfl, w3⟩ := open_str Tryd.underlying9 i2 j2
    obtain ⟨x4, rfl, _⟩ := open_num Tryd.underlying2 i3
    obtain ⟨x5, rfl, _⟩ := open_num Tryd.underlying2 i4
    obtain ⟨x6, rfl, _⟩ := open_num Tryd.underlying2 r2
    obtain ⟨x7, rfl, w7⟩ := open_str Tryd.underlying9 r3 y3
    refine ⟨⟨x0, ⟨x1, x2, x3, x4, x5⟩, x6, x7⟩, ⟨w2, w3, w7⟩, fun j hj => ?_⟩
    have := q2 j hj
    rw [this]
    match j, hj with
    | 0, _ => rfl
    | 1, _ => rfl
    | 2, _ => rfl
    | 3, _ => rfl
    | 4, _ => rfl
    | 5, _ => rfl
    | 6, _ => rfl
    | 7, _ => rfl⟩) (fun _ => rfl)
  have h5 : reachBytes < 140737488355328 := reachBytes_lt
  exact ⟨A0, c0, l, by rw [hl], h1, h2, by omega, h4⟩
end Go.Proofs.YtekobdmlgbffnaaDoor

/- strings.Clone: its contract. -/
namespace Go.Proofs.YtekobdmlgbffnaaDoor
set_option linter.unusedVariables false
set_option maxRecDepth 100000
set_option linter.unusedSimpArgs false
open Go.RowKit

set_option maxRecDepth 100000 in
set_option maxHeartbeats 1000000 in
theorem sclone_ok (s : ByteArray) (w : World) (hs : s.size ≤ 140737488355328) : Calls Tryd.prog 36 #[.string s] w fun e u' => e = .returned (.string s) ∧ Below w.heap.size w u' := by
  have HI := Lib.hid (fun u => Tryd.stringslite_Clone s u (by omega))
  go_enter Tryd.func36, Tryd.ntmps36
  go_wp2_with (go_at_call 51; refine (HI.out _).mono ?_; rintro e u2 ⟨rfl, hb⟩; have HB := Lib.hid hb; clear hb)
  go_ret
  exact ⟨rfl, HB.out⟩

end Go.Proofs.YtekobdmlgbffnaaDoor

/- wire.known, has, counts: their contracts. -/
namespace Go.Proofs.YtekobdmlgbffnaaDoor
set_option linter.unusedVariables false
set_option maxRecDepth 100000
set_option linter.unusedSimpArgs false
open Go.RowKit

/-- What the table holds. -/
structure Gw (w : World) : Prop where
  size : 0 < w.heap.size
  part : ∀ k, k < 15 → w.cell? ⟨0, k, none⟩ = some (.int .i64 ((ptL.getD k 0 : Nat) : Int))
theorem Gw.below {w w' : World} {B : Nat} (h : Gw w) (hb : Below B w w') (hB : 0 < B) : Gw w' :=
  ⟨Nat.lt_of_lt_of_le h.size hb.size, fun k hk => (hb.cell (p := ⟨0, k, none⟩) hB).trans (h.part k hk)⟩

/-! ### What of a message is not zero -/

abbrev Mg.cells (x : Mg) : Array Value := #[.int .i64 x.k, .string x.a, .string x.b, .int .i64 x.n, .int .i64 x.m]
/-- The bits of the first places that are not zero. -/
def gvN (x : Mg) : Nat → Nat
  | 0 => 0
  | 1 => (!x.a.toList.isEmpty).toNat
  | 2 => (!x.a.toList.isEmpty).toNat + 2 * (!x.b.toList.isEmpty).toNat
  | 3 => (!x.a.toList.isEmpty).toNat + 2 * (!x.b.toList.isEmpty).toNat + 4 * (x.n != 0).toNat
  | _ => (!x.a.toList.isEmpty).toNat + 2 * (!x.b.toList.isEmpty).toNat + 4 * (x.n != 0).toNat + 8 * (x.m != 0).toNat

end Go.Proofs.YtekobdmlgbffnaaDoor

/- great of vault's laws: its contract. (Written by gen_vtg.py.) -/
namespace Go.Proofs.YtekobdmlgbffnaaDoor
set_option linter.unusedVariables false
set_option maxRecDepth 100000
set_option linter.unusedSimpArgs false
open Go.RowKit

def Vo.few (x : Vo) : Prop := x.tn.size + x.tk.size + x.nn.size + x.pf.size ≤ 2000
structure OpsB (l : List Vo) : Prop where
  n : l.length ≤ 100
  x : ∀ x ∈ l, x.few
/-- What great leaves. -/
def VgP (l : List Vo) (w : World) (e : Ending) (w' : World) : Prop := ∃ g : Bool, e = .returned (.bool g) ∧ (g = false → OpsB l) ∧ Below w.heap.size w w'
end Go.Proofs.YtekobdmlgbffnaaDoor

/- How long a configuration's text is: plain mathematics. -/
namespace Go.Proofs.YtekobdmlgbffnaaDoor
set_option linter.unusedVariables false
set_option maxRecDepth 100000
set_option linter.unusedSimpArgs false

end Go.Proofs.YtekobdmlgbffnaaDoor

/- One text behind the other, as one operation. Nothing of the program is named here. -/
namespace Go.Proofs.YtekobdmlgbffnaaDoor
set_option linter.unusedVariables false
set_option maxRecDepth 100000
set_option linter.unusedSimpArgs false
open Go.RowKit

end Go.Proofs.YtekobdmlgbffnaaDoor

/- config.line: its contract. -/
namespace Go.Proofs.YtekobdmlgbffnaaDoor
set_option linter.unusedVariables false
set_option maxRecDepth 100000
set_option linter.unusedSimpArgs false
open Go.RowKit

/-- Words as a row of texts. -/
def wdc (ws : List (List UInt8)) : Array Value := (ws.map fun p => Value.string (bs p)).toArray
end Go.Proofs.YtekobdmlgbffnaaDoor
