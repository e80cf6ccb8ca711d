/- The calls that come in, opened: from the row's reading to 'InO'. -/
import Derived.Test.YtiomfinimbogaaaRgOps
import Derived.Test.YtiomfinimbogaaaOpen
import Derived.Deep.SlicePairs
namespace Go.Proofs.Ytiomfinimbogaaa
set_option linter.unusedVariables false
set_option linter.unusedSimpArgs false
open Go.ChangeShapes Go.WideShapes Go.ChangeAt Go.RowKit

instance : Inhabited OpM := ⟨⟨0, none, 0, [], 0⟩⟩

theorem open_one {H : Type} {enc : TypeId × Value → H} {P : Program} {W : World} {t q : TypeId} {v : Value} {y : DataW H × List MemPlace} {fuel : Nat} (ht : P.underlying t = some (.slice q)) (hq : P.underlying q = some (.int .u8)) (cq : P.cellsOf q = 1)
    (h : DataW.trod enc P W 0 (fun _ => true) true fuel t [v] = some y) : ∃ A c l, v = .slice A l.length c ∧ InB W A l l.length c := by
  rcases Go.Deep.open_slice ht h with ⟨hcs, hx⟩ | ⟨a, len, cap, m, n, D, Pl, hcs, _⟩
  · obtain rfl : v = .slice none 0 0 := by simpa using hcs
    exact ⟨none, 0, [], rfl, ⟨.inl rfl, rfl, Nat.le_refl _, by unfold maxLen; omega, fun _ => ⟨rfl, rfl⟩⟩⟩
  · obtain rfl : v = .slice (some a) len cap := by simpa using hcs
    obtain ⟨l, hl⟩ := open_bytes (W := W) (A := some a) (n := len) (c := cap) (d := y.1) (p := y.2) ht hq cq ⟨fuel, by simpa [Value.cells] using h⟩
    have e := hl.len
    subst e
    exact ⟨some a, cap, l, rfl, hl⟩

theorem open_ops {H : Type} {enc : TypeId × Value → H} {P : Program} {W : World} {A : Option Addr} {n c : Nat} {t e q : TypeId} {f0 f1 f2 : Field} {d : DataW H} {p : List MemPlace} (ht : P.underlying t = some (.slice e)) (he : P.underlying e = some (.struct #[f0, f1, f2])) (ce : P.cellsOf e = 3)
    (o0 : f0.offset = 0) (o1 : f1.offset = 1) (o2 : f2.offset = 2) (c0 : P.cellsOf f0.type = 1) (c1 : P.cellsOf f1.type = 1) (c2 : P.cellsOf f2.type = 1) (h0 : P.underlying f0.type = some (.int .i64)) (h1 : P.underlying f1.type = some (.slice q)) (h2 : P.underlying f2.type = some (.int .i64))
    (hq : P.underlying q = some (.int .u8)) (cq : P.cellsOf q = 1)
    (h : DataW.Trod enc P W 0 (fun _ => true) true t (.slice A n c) d p) : ∃ L, InO W A L n c := by
  obtain ⟨fuel, hf⟩ := h
  rcases Go.Deep.open_slice ht hf with ⟨hcs, _⟩ | ⟨a, len, cap, m, k, D, Pl, hcs, _, hl, hm, hmm, _, hx⟩
  · simp [Value.cells] at hcs
    obtain ⟨rfl, rfl, rfl⟩ := hcs
    exact ⟨[], ⟨.inl rfl, rfl, Nat.le_refl _, by unfold maxLen; omega, fun _ => ⟨rfl, rfl⟩⟩⟩
  · simp [Value.cells] at hcs
    obtain ⟨rfl, rfl, rfl⟩ := hcs
    simp only [if_true] at hmm
    subst hmm
    have each : ∀ i, i < n → ∃ x : OpM, W.cell? (a.add (i * 3)) = some (.int .i64 x.what) ∧ W.cell? (a.add (i * 3 + 1)) = some (.slice x.A x.l.length x.c) ∧ W.cell? (a.add (i * 3 + 2)) = some (.int .i64 x.x) ∧ InB W x.A x.l x.l.length x.c := by
      intro i hi
      obtain ⟨cs', g1, g2⟩ := hx i (by omega)
      rw [ce] at g1
      obtain ⟨_, hlen, hcell⟩ := World.cells?_some g1
      obtain ⟨xs, k', _, _, _, hxl, hfs⟩ := DataW.trod_struct he g2
      match xs, hxl, cs', hlen with
      | [y0, y1, y2], _, [v0, v1, v2], _ =>
        have t0 := hfs 0 f0 rfl
        have t1 := hfs 1 f1 rfl
        have t2 := hfs 2 f2 rfl
        simp [o0, o1, o2, c0, c1, c2] at t0 t1 t2
        obtain ⟨n0, e0, _, _⟩ := DataW.trod_int h0 t0
        obtain ⟨n2, e2, _, _⟩ := DataW.trod_int h2 t2
        obtain ⟨A1, c1', l1, e1, b1⟩ := open_one h1 hq cq t1
        obtain rfl : v0 = .int .i64 n0 := by simpa using e0
        obtain rfl : v2 = .int .i64 n2 := by simpa using e2
        subst e1
        have q0 := hcell 0 (by omega)
        have q1 := hcell 1 (by omega)
        have q2 := hcell 2 (by omega)
        rw [Go.Deep.add_add] at q0 q1 q2
        exact ⟨⟨n0, A1, c1', l1, n2⟩, by simpa using q0, by simpa using q1, by simpa using q2, b1⟩
    obtain ⟨F, hF⟩ := Go.Deep.choose_lt each
    refine ⟨(List.range n).map F, ⟨?_, by simp, hl, hm, fun h => by cases h⟩⟩
    by_cases hn : n = 0
    · left; rw [hn]; rfl
    · right
      obtain ⟨b, o, spot⟩ := a
      have hc0 := (hF 0 (by omega)).1
      have hspot : spot = none := by simpa [Addr.add] using World.cell?_spot hc0
      subst hspot
      refine ⟨b, o, rfl, ?_, fun i hi => ?_⟩
      · have := World.block_lt_of_cell? W _ hc0
        rw [add_plain] at this
        exact this
      · have hi' : i < n := by simpa using hi
        have e : ((List.range n).map F)[i] = F i := by simp
        rw [e]
        obtain ⟨r0, r1, r2, r3⟩ := hF i hi'
        rw [add_plain] at r0 r1 r2
        exact ⟨r0, r1, r2, ⟨r3.rb, r3.cap, by have := r3.max; unfold maxLen at this; omega, r3.nil_⟩⟩
end Go.Proofs.Ytiomfinimbogaaa
