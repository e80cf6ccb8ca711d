/- The calls that come in to clock's laws: a slice of structs of three numbers. -/
import Derived.Test.YtdfllobdefodfaaCkLib
import Derived.Deep.Strs
import Derived.Deep.SlicePairs
namespace Go.Proofs.Ytdfllobdefodfaa
set_option linter.unusedVariables false
set_option linter.unusedSimpArgs false
open Go.ChangeShapes Go.WideShapes Go.ChangeAt Go.RowKit

/-- A call: what it is, a number, a time. -/
structure CoM where
  what : Int
  id : Int
  n : Int
instance : Inhabited CoM := ⟨⟨0, 0, 0⟩⟩

/-- A slice of calls that came in. -/
structure InC (W : World) (A : Option Addr) (L : List CoM) (n c : Nat) : Prop where
  rc : L = [] ∨ ∃ b o, A = some ⟨b, o, none⟩ ∧ b < W.heap.size ∧ ∀ i, (h : i < L.length) → W.cell? ⟨b, o + i * 3, none⟩ = some (.int .i64 L[i].what) ∧ W.cell? ⟨b, o + i * 3 + 1, none⟩ = some (.int .i64 L[i].id) ∧ W.cell? ⟨b, o + i * 3 + 2, none⟩ = some (.int .i64 L[i].n)
  len : L.length = n
  cap : n ≤ c
  max : c ≤ maxLen
  nil_ : A = none → n = 0 ∧ c = 0
  wf : ∀ x ∈ L, Wf x.what ∧ Wf x.id ∧ Wf x.n

/-- One call, in every later world. -/
theorem InC.at_ {W : World} {A : Option Addr} {L : List CoM} {n c : Nat} (h : InC W A L n c) (i : Nat) (hi : i < n) :
    ∃ b o m, A = some ⟨b, o, none⟩ ∧ L[i]? = some m ∧ (Wf m.what ∧ Wf m.id ∧ Wf m.n) ∧ ∀ u, Below W.heap.size W u → u.cell? ⟨b, o + i * 3, none⟩ = some (.int .i64 m.what) ∧ u.cell? ⟨b, o + i * 3 + 1, none⟩ = some (.int .i64 m.id) ∧ u.cell? ⟨b, o + i * 3 + 2, none⟩ = some (.int .i64 m.n) := by
  rcases h.rc with h0 | ⟨b, o, e, hb, hc⟩
  · have := h.len
    rw [h0] at this
    simp at this
    omega
  · have hi' : i < L.length := by rw [h.len]; exact hi
    obtain ⟨h1, h2, h3⟩ := hc i hi'
    refine ⟨b, o, L[i], e, List.getElem?_eq_getElem hi', h.wf _ (List.getElem_mem hi'), fun u hu => ⟨?_, ?_, ?_⟩⟩
    · exact (hu.cell (p := ⟨b, o + i * 3, none⟩) hb).trans h1
    · exact (hu.cell (p := ⟨b, o + i * 3 + 1, none⟩) hb).trans h2
    · exact (hu.cell (p := ⟨b, o + i * 3 + 2, none⟩) hb).trans h3

theorem open_cops {H : Type} {enc : TypeId × Value → H} {P : Program} {W : World} {A : Option Addr} {n c : Nat} {t e : TypeId} {f0 f1 f2 : Field} {d : DataW H} {p : List MemPlace} (ht : P.underlying t = some (.slice e)) (he : P.underlying e = some (.struct #[f0, f1, f2])) (ce : P.cellsOf e = 3)
    (o0 : f0.offset = 0) (o1 : f1.offset = 1) (o2 : f2.offset = 2) (c0 : P.cellsOf f0.type = 1) (c1 : P.cellsOf f1.type = 1) (c2 : P.cellsOf f2.type = 1) (h0 : P.underlying f0.type = some (.int .i64)) (h1 : P.underlying f1.type = some (.int .i64)) (h2 : P.underlying f2.type = some (.int .i64))
    (h : DataW.Trod enc P W 0 (fun _ => true) true t (.slice A n c) d p) : ∃ L, InC W A L n c := by
  obtain ⟨fuel, hf⟩ := h
  rcases Go.Deep.open_slice ht hf with ⟨hcs, _⟩ | ⟨a, len, cap, m, k, D, Pl, hcs, _, hl, hm, hmm, _, hx⟩
  · simp [Value.cells] at hcs
    obtain ⟨rfl, rfl, rfl⟩ := hcs
    exact ⟨[], ⟨.inl rfl, rfl, Nat.le_refl _, by unfold maxLen; omega, fun _ => ⟨rfl, rfl⟩, fun x hx => by cases hx⟩⟩
  · simp [Value.cells] at hcs
    obtain ⟨rfl, rfl, rfl⟩ := hcs
    simp only [if_true] at hmm
    subst hmm
    have each : ∀ i, i < n → ∃ x : CoM, W.cell? (a.add (i * 3)) = some (.int .i64 x.what) ∧ W.cell? (a.add (i * 3 + 1)) = some (.int .i64 x.id) ∧ W.cell? (a.add (i * 3 + 2)) = some (.int .i64 x.n) ∧ (Wf x.what ∧ Wf x.id ∧ Wf x.n) := by
      intro i hi
      obtain ⟨cs', g1, g2⟩ := hx i (by omega)
      rw [ce] at g1
      obtain ⟨_, hlen, hcell⟩ := World.cells?_some g1
      obtain ⟨xs, k', _, _, _, hxl, hfs⟩ := DataW.trod_struct he g2
      match xs, hxl, cs', hlen with
      | [y0, y1, y2], _, [v0, v1, v2], _ =>
        have t0 := hfs 0 f0 rfl
        have t1 := hfs 1 f1 rfl
        have t2 := hfs 2 f2 rfl
        simp [o0, o1, o2, c0, c1, c2] at t0 t1 t2
        obtain ⟨n0, e0, _, w0⟩ := DataW.trod_int h0 t0
        obtain ⟨n1, e1, _, w1⟩ := DataW.trod_int h1 t1
        obtain ⟨n2, e2, _, w2⟩ := DataW.trod_int h2 t2
        obtain rfl : v0 = .int .i64 n0 := by simpa using e0
        obtain rfl : v1 = .int .i64 n1 := by simpa using e1
        obtain rfl : v2 = .int .i64 n2 := by simpa using e2
        have q0 := hcell 0 (by omega)
        have q1 := hcell 1 (by omega)
        have q2 := hcell 2 (by omega)
        rw [Go.Deep.add_add] at q0 q1 q2
        exact ⟨⟨n0, n1, n2⟩, by simpa using q0, by simpa using q1, by simpa using q2, w0, w1, w2⟩
    obtain ⟨F, hF⟩ := Go.Deep.choose_lt each
    refine ⟨(List.range n).map F, ⟨?_, by simp, hl, hm, (fun h => by cases h), fun x hx => ?_⟩⟩
    · by_cases hn : n = 0
      · left; rw [hn]; rfl
      · right
        obtain ⟨b, o, spot⟩ := a
        have hc0 := (hF 0 (by omega)).1
        have hspot : spot = none := by simpa [Addr.add] using World.cell?_spot hc0
        subst hspot
        refine ⟨b, o, rfl, ?_, fun i hi => ?_⟩
        · have := World.block_lt_of_cell? W _ hc0
          rw [add_plain] at this
          exact this
        · have hi' : i < n := by simpa using hi
          have e : ((List.range n).map F)[i] = F i := by simp
          rw [e]
          obtain ⟨r0, r1, r2, _⟩ := hF i hi'
          rw [add_plain] at r0 r1 r2
          exact ⟨r0, r1, r2⟩
    · obtain ⟨i, hi, rfl⟩ := List.mem_map.1 hx
      exact (hF i (List.mem_range.1 hi)).2.2.2
end Go.Proofs.Ytdfllobdefodfaa
