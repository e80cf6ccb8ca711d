/- The calls that come in to conn's laws: a slice of structs of three numbers and a slice of bytes. Nothing of the program is named here. -/
import Derived.Test.YtndamiocmdnenaaOpen
import Derived.Test.YtndamiocmdnenaaBytes
import Derived.Deep.Strs
import Derived.Deep.SlicePairs
namespace Go.Proofs.Ytndamiocmdnenaa
set_option linter.unusedVariables false
set_option maxRecDepth 100000
set_option linter.unusedSimpArgs false
open Go.ChangeShapes Go.WideShapes Go.ChangeAt Go.RowKit

/-- A call: what it is, of which connection, a number, bytes (where they lie, in a slice of which capacity). -/
structure OpC where
  what : Int
  id : Int
  x : Int
  A : Option Addr
  c : Nat
  l : List UInt8
instance : Inhabited OpC := ⟨⟨0, 0, 0, none, 0, []⟩⟩
/-- The bytes of a call lie below block B. -/
structure OcOk (w : World) (B : Nat) (m : OpC) : Prop where
  rb : Rb w B m.A m.l
  cap : m.l.length ≤ m.c
  max : m.c ≤ 9223372036854775807
  nil_ : m.A = none → m.l.length = 0 ∧ m.c = 0
theorem OcOk.below {w w' : World} {B B' : Nat} {m : OpC} (h : OcOk w B m) (hb : Below B' w w') (hB : B ≤ B') : OcOk w' B m := ⟨h.rb.below hb hB, h.cap, h.max, h.nil_⟩
/-- The four cells of a call. -/
structure Oc (w : World) (b o i : Nat) (m : OpC) : Prop where
  c0 : w.cell? ⟨b, o + i * 4, none⟩ = some (.int .i64 m.what)
  c1 : w.cell? ⟨b, o + i * 4 + 1, none⟩ = some (.int .i64 m.id)
  c2 : w.cell? ⟨b, o + i * 4 + 2, none⟩ = some (.int .i64 m.x)
  c3 : w.cell? ⟨b, o + i * 4 + 3, none⟩ = some (.slice m.A m.l.length m.c)
/-- A slice of calls that came in. -/
structure InCn (W : World) (A : Option Addr) (L : List OpC) (n c : Nat) : Prop where
  ro : L = [] ∨ ∃ b o, A = some ⟨b, o, none⟩ ∧ b < W.heap.size ∧ ∀ i, (h : i < L.length) → Oc W b o i L[i] ∧ OcOk W W.heap.size L[i]
  len : L.length = n
  cap : n ≤ c
  max : c ≤ maxLen
  nil_ : A = none → n = 0 ∧ c = 0
  wf : ∀ m ∈ L, (Lit.int .i64 m.id).wf = true ∧ (Lit.int .i64 m.x).wf = true ∧ (Lit.int .i64 m.what).wf = true
/-- Of the calls that came in, in every later world. -/
theorem InCn.at_ {W : World} {A : Option Addr} {L : List OpC} {n c : Nat} (h : InCn W A L n c) (i : Nat) (hi : i < n) :
    ∃ b o m, A = some ⟨b, o, none⟩ ∧ L[i]? = some m ∧ ((Lit.int .i64 m.id).wf = true ∧ (Lit.int .i64 m.x).wf = true ∧ (Lit.int .i64 m.what).wf = true) ∧ ∀ u, Below W.heap.size W u → Oc u b o i m ∧ OcOk u W.heap.size m := by
  rcases h.ro with h0 | ⟨b, o, e, hb, hc⟩
  · have := h.len
    rw [h0] at this
    simp at this
    omega
  · have hi' : i < L.length := by rw [h.len]; exact hi
    obtain ⟨h1, h4⟩ := hc i hi'
    refine ⟨b, o, L[i], e, List.getElem?_eq_getElem hi', h.wf _ (List.getElem_mem hi'), fun u hu => ⟨⟨?_, ?_, ?_, ?_⟩, h4.below hu (Nat.le_refl _)⟩⟩
    · exact (hu.cell (p := ⟨b, o + i * 4, none⟩) hb).trans h1.c0
    · exact (hu.cell (p := ⟨b, o + i * 4 + 1, none⟩) hb).trans h1.c1
    · exact (hu.cell (p := ⟨b, o + i * 4 + 2, none⟩) hb).trans h1.c2
    · exact (hu.cell (p := ⟨b, o + i * 4 + 3, none⟩) hb).trans h1.c3

theorem open_oneC {H : Type} {enc : TypeId × Value → H} {P : Program} {W : World} {t q : TypeId} {v : Value} {y : DataW H × List MemPlace} {fuel : Nat} (ht : P.underlying t = some (.slice q)) (hq : P.underlying q = some (.int .u8)) (cq : P.cellsOf q = 1)
    (h : DataW.trod enc P W 0 (fun _ => true) true fuel t [v] = some y) : ∃ A c l, v = .slice A l.length c ∧ InB W A l l.length c := by
  rcases Go.Deep.open_slice ht h with ⟨hcs, hx⟩ | ⟨a, len, cap, m, n, D, Pl, hcs, _⟩
  · obtain rfl : v = .slice none 0 0 := by simpa using hcs
    exact ⟨none, 0, [], rfl, ⟨.inl rfl, rfl, Nat.le_refl _, by unfold maxLen; omega, fun _ => ⟨rfl, rfl⟩⟩⟩
  · obtain rfl : v = .slice (some a) len cap := by simpa using hcs
    obtain ⟨l, hl⟩ := open_bytes (W := W) (A := some a) (n := len) (c := cap) (d := y.1) (p := y.2) ht hq cq ⟨fuel, by simpa [Value.cells] using h⟩
    have e := hl.len
    subst e
    exact ⟨some a, cap, l, rfl, hl⟩

theorem open_cnops {H : Type} {enc : TypeId × Value → H} {P : Program} {W : World} {A : Option Addr} {n c : Nat} {t e q : TypeId} {f0 f1 f2 f3 : Field} {d : DataW H} {p : List MemPlace} (ht : P.underlying t = some (.slice e)) (he : P.underlying e = some (.struct #[f0, f1, f2, f3])) (ce : P.cellsOf e = 4)
    (o0 : f0.offset = 0) (o1 : f1.offset = 1) (o2 : f2.offset = 2) (o3 : f3.offset = 3) (c0 : P.cellsOf f0.type = 1) (c1 : P.cellsOf f1.type = 1) (c2 : P.cellsOf f2.type = 1) (c3 : P.cellsOf f3.type = 1)
    (h0 : P.underlying f0.type = some (.int .i64)) (h1 : P.underlying f1.type = some (.int .i64)) (h2 : P.underlying f2.type = some (.int .i64)) (h3 : P.underlying f3.type = some (.slice q)) (hq : P.underlying q = some (.int .u8)) (cq : P.cellsOf q = 1)
    (h : DataW.Trod enc P W 0 (fun _ => true) true t (.slice A n c) d p) : ∃ L, InCn W A L n c := by
  obtain ⟨fuel, hf⟩ := h
  rcases Go.Deep.open_slice ht hf with ⟨hcs, _⟩ | ⟨a, len, cap, m, k, D, Pl, hcs, _, hl, hm, hmm, _, hx⟩
  · simp [Value.cells] at hcs
    obtain ⟨rfl, rfl, rfl⟩ := hcs
    exact ⟨[], ⟨.inl rfl, rfl, Nat.le_refl _, by unfold maxLen; omega, fun _ => ⟨rfl, rfl⟩, fun m hm => by cases hm⟩⟩
  · simp [Value.cells] at hcs
    obtain ⟨rfl, rfl, rfl⟩ := hcs
    simp only [if_true] at hmm
    subst hmm
    have each : ∀ i, i < n → ∃ x : OpC, W.cell? (a.add (i * 4)) = some (.int .i64 x.what) ∧ W.cell? (a.add (i * 4 + 1)) = some (.int .i64 x.id) ∧ W.cell? (a.add (i * 4 + 2)) = some (.int .i64 x.x) ∧ W.cell? (a.add (i * 4 + 3)) = some (.slice x.A x.l.length x.c) ∧ InB W x.A x.l x.l.length x.c ∧ ((Lit.int .i64 x.id).wf = true ∧ (Lit.int .i64 x.x).wf = true ∧ (Lit.int .i64 x.what).wf = true) := by
      intro i hi
      obtain ⟨cs', g1, g2⟩ := hx i (by omega)
      rw [ce] at g1
      obtain ⟨_, hlen, hcell⟩ := World.cells?_some g1
      obtain ⟨xs, k', _, _, _, hxl, hfs⟩ := DataW.trod_struct he g2
      match xs, hxl, cs', hlen with
      | [y0, y1, y2, y3], _, [v0, v1, v2, v3], _ =>
        have t0 := hfs 0 f0 rfl
        have t1 := hfs 1 f1 rfl
        have t2 := hfs 2 f2 rfl
        have t3 := hfs 3 f3 rfl
        simp [o0, o1, o2, o3, c0, c1, c2, c3] at t0 t1 t2 t3
        obtain ⟨n0, e0, _, z0⟩ := DataW.trod_int h0 t0
        obtain ⟨n1, e1, _, z1⟩ := DataW.trod_int h1 t1
        obtain ⟨n2, e2, _, z2⟩ := DataW.trod_int h2 t2
        obtain ⟨A2, c2', l2, e3, b2⟩ := open_oneC h3 hq cq t3
        obtain rfl : v0 = .int .i64 n0 := by simpa using e0
        obtain rfl : v1 = .int .i64 n1 := by simpa using e1
        obtain rfl : v2 = .int .i64 n2 := by simpa using e2
        subst e3
        have q0 := hcell 0 (by omega)
        have q1 := hcell 1 (by omega)
        have q2 := hcell 2 (by omega)
        have q3 := hcell 3 (by omega)
        rw [Go.Deep.add_add] at q0 q1 q2 q3
        exact ⟨⟨n0, n1, n2, A2, c2', l2⟩, by simpa using q0, by simpa using q1, by simpa using q2, by simpa using q3, b2, z1, z2, z0⟩
    obtain ⟨F, hF⟩ := Go.Deep.choose_lt each
    refine ⟨(List.range n).map F, ⟨?_, by simp, hl, hm, (fun h => by cases h), fun m hm' => by
      obtain ⟨i, hi, rfl⟩ := List.mem_map.1 hm'
      exact (hF i (List.mem_range.1 hi)).2.2.2.2.2⟩⟩
    by_cases hn : n = 0
    · left; rw [hn]; rfl
    · right
      obtain ⟨b, o, spot⟩ := a
      have hc0 := (hF 0 (by omega)).1
      have hspot : spot = none := by simpa [Addr.add] using World.cell?_spot hc0
      subst hspot
      refine ⟨b, o, rfl, ?_, fun i hi => ?_⟩
      · have := World.block_lt_of_cell? W _ hc0
        rw [add_plain] at this
        exact this
      · have hi' : i < n := by simpa using hi
        have e : ((List.range n).map F)[i] = F i := by simp
        rw [e]
        obtain ⟨r0, r1, r2, r3, r4, _⟩ := hF i hi'
        rw [add_plain] at r0 r1 r2 r3
        exact ⟨⟨r0, r1, r2, r3⟩, ⟨r4.rb, r4.cap, by have := r4.max; unfold maxLen at this; omega, r4.nil_⟩⟩
end Go.Proofs.Ytndamiocmdnenaa
