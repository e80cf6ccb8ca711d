/- SpTwo, PrP, CoIn: texts of this seat, one behind the other. -/
import Derived.Test.YtinjldjpncijjaaG2
import Derived.Test.YtinjldjpncijjaaPrH
import Derived.Test.YtinjldjpncijjaaG1
import Derived.ProofKit
import Derived.OpenShut
import Derived.Deep.Strs
import Derived.Deep.SlicePairs
/- Two footprints side by side. Nothing of the program is named here. -/
namespace Go.Proofs.Ytinjldjpncijjaa
set_option linter.unusedVariables false
set_option maxRecDepth 100000
set_option linter.unusedSimpArgs false
open Go.RowKit

theorem Sp.left {u u' : World} {G G' : List Nat} (H : List Nat) (h : Sp u u' G G') : Sp u u' (G ++ H) (G' ++ H) :=
  ⟨h.k.more fun x hx => List.mem_append_left _ hx, fun y hy => by
    rcases List.mem_append.1 hy with e | e
    · rcases h.g y e with e1 | e1
      · exact .inl (List.mem_append_left _ e1)
      · exact .inr e1
    · exact .inl (List.mem_append_right _ e)⟩
theorem Sp.right {u u' : World} {H H' : List Nat} (G : List Nat) (h : Sp u u' H H') : Sp u u' (G ++ H) (G ++ H') :=
  ⟨h.k.more fun x hx => List.mem_append_right _ hx, fun y hy => by
    rcases List.mem_append.1 hy with e | e
    · exact .inl (List.mem_append_left _ e)
    · rcases h.g y e with e1 | e1
      · exact .inl (List.mem_append_right _ e1)
      · exact .inr e1⟩
end Go.Proofs.Ytinjldjpncijjaa

/- Both tables of pairs side by side: the program's and the document's own. (Begun in round 15, ahead of the landing.) -/
namespace Go.Proofs.Ytinjldjpncijjaa
set_option linter.unusedVariables false
set_option maxRecDepth 100000
set_option linter.unusedSimpArgs false
open Go.RowKit

structure Wp (W u : World) (H : List Nat) (tb : Nat) (t : Tp) (H2 : List Nat) (db : Nat) (d : Tp) : Prop where
  z : Zp W u H tb t
  d : Dr W u H2 db d
  ne : ∀ y ∈ H, y ∉ H2
section
variable {W u u' : World} {H H' H2 H2' : List Nat} {tb db : Nat} {t d t' d' : Tp} {e : TypeId}
theorem Wp.left (h : Wp W u H tb t H2 db d) (s : Sp u u' H H') (k : Zp W u' H' tb t') : Wp W u' H' tb t' H2 db d :=
  ⟨k, h.d.ke s.k (fun y hy hG => h.ne y hG hy) k.l, fun y hy hH => by
    rcases s.g y hy with e | e
    · exact h.ne y e hH
    · have := h.d.hi y hH; omega⟩
theorem Wp.right (h : Wp W u H tb t H2 db d) (s : Sp u u' H2 H2') (k : Dr W u' H2' db d') : Wp W u' H tb t H2' db d' :=
  ⟨h.z.ke s.k (fun y hy hH => h.ne y hy hH) k.l, k, fun y hy hH => by
    rcases s.g y hH with e | e
    · exact h.ne y hy e
    · have := h.z.hi y hy; omega⟩
theorem Wp.on (h : Wp W u H tb t H2 db d) (hb : Below u.heap.size u u') : Wp W u' H tb t H2 db d := ⟨h.z.on hb, h.d.on hb, h.ne⟩
theorem Wp.hi (h : Wp W u H tb t H2 db d) : ∀ y ∈ H ++ H2, y < u.heap.size := fun y hy => by
  rcases List.mem_append.1 hy with e | e
  · exact h.z.hi y e
  · exact h.d.hi y e
theorem d_was (h : Dr W u H db t) (hf : t.ev.length ≤ 1000000) (id : Int) (R : Bool) (hR : decide (id ∈ t.ev) = R) :
    Calls Try.prog 19 #[.pointer (some ⟨db, 0, none⟩), .int .i64 id] u fun e u' => e = .returned (.bool R) ∧ Below u.heap.size u u' :=
  (pr_was h hf id R hR).mono fun e u' hh => ⟨hh.1, by rw [hh.2]; exact Below.refl _ _⟩
theorem d_other (h : Dr W u H db t) (hf : t.l.length ≤ 1000000) (id : Int) (x0 : Int) (b0 : Bool) (hR : othP t.l id = (x0, b0)) :
    Calls Try.prog 17 #[.pointer (some ⟨db, 0, none⟩), .int .i64 id] u fun e u' => e = .returned (.tuple #[.int .i64 x0, .bool b0]) ∧ Below u.heap.size u u' :=
  (pr_other h hf id x0 b0 hR).mono fun e u' hh => ⟨hh.1, by rw [hh.2]; exact Below.refl _ _⟩
end
end Go.Proofs.Ytinjldjpncijjaa

/- The calls that come in to a law: a slice of structs of three numbers. Nothing of the program is named here. -/
namespace Go.Proofs.Ytinjldjpncijjaa
set_option linter.unusedVariables false
set_option maxRecDepth 100000
set_option linter.unusedSimpArgs false
open Go.ChangeShapes Go.WideShapes Go.ChangeAt Go.RowKit

/-- A call: what it is, a number, a time. -/
structure CoM where
  what : Int
  id : Int
  n : Int
instance : Inhabited CoM := ⟨⟨0, 0, 0⟩⟩

/-- A slice of calls that came in. -/
structure InC (W : World) (A : Option Addr) (L : List CoM) (n c : Nat) : Prop where
  rc : L = [] ∨ ∃ b o, A = some ⟨b, o, none⟩ ∧ b < W.heap.size ∧ ∀ i, (h : i < L.length) → W.cell? ⟨b, o + i * 3, none⟩ = some (.int .i64 L[i].what) ∧ W.cell? ⟨b, o + i * 3 + 1, none⟩ = some (.int .i64 L[i].id) ∧ W.cell? ⟨b, o + i * 3 + 2, none⟩ = some (.int .i64 L[i].n)
  len : L.length = n
  cap : n ≤ c
  max : c ≤ maxLen
  nil_ : A = none → n = 0 ∧ c = 0
  wf : ∀ x ∈ L, (Lit.int .i64 x.what).wf = true ∧ (Lit.int .i64 x.id).wf = true ∧ (Lit.int .i64 x.n).wf = true

/-- One call, in every later world. -/
theorem InC.at_ {W : World} {A : Option Addr} {L : List CoM} {n c : Nat} (h : InC W A L n c) (i : Nat) (hi : i < n) :
    ∃ b o m, A = some ⟨b, o, none⟩ ∧ L[i]? = some m ∧ ((Lit.int .i64 m.what).wf = true ∧ (Lit.int .i64 m.id).wf = true ∧ (Lit.int .i64 m.n).wf = true) ∧ ∀ u, Below W.heap.size W u → u.cell? ⟨b, o + i * 3, none⟩ = some (.int .i64 m.what) ∧ u.cell? ⟨b, o + i * 3 + 1, none⟩ = some (.int .i64 m.id) ∧ u.cell? ⟨b, o + i * 3 + 2, none⟩ = some (.int .i64 m.n) := by
  rcases h.rc with h0 | ⟨b, o, e, hb, hc⟩
  · have := h.len
    rw [h0] at this
    simp at this
    omega
  · have hi' : i < L.length := by rw [h.len]; exact hi
    obtain ⟨h1, h2, h3⟩ := hc i hi'
    refine ⟨b, o, L[i], e, List.getElem?_eq_getElem hi', h.wf _ (List.getElem_mem hi'), fun u hu => ⟨?_, ?_, ?_⟩⟩
    · exact (hu.cell (p := ⟨b, o + i * 3, none⟩) hb).trans h1
    · exact (hu.cell (p := ⟨b, o + i * 3 + 1, none⟩) hb).trans h2
    · exact (hu.cell (p := ⟨b, o + i * 3 + 2, none⟩) hb).trans h3

theorem open_cops {H : Type} {enc : TypeId × Value → H} {P : Program} {W : World} {A : Option Addr} {n c : Nat} {t e : TypeId} {f0 f1 f2 : Field} {d : DataW H} {p : List MemPlace} (ht : P.underlying t = some (.slice e)) (he : P.underlying e = some (.struct #[f0, f1, f2])) (ce : P.cellsOf e = 3)
    (o0 : f0.offset = 0) (o1 : f1.offset = 1) (o2 : f2.offset = 2) (c0 : P.cellsOf f0.type = 1) (c1 : P.cellsOf f1.type = 1) (c2 : P.cellsOf f2.type = 1) (h0 : P.underlying f0.type = some (.int .i64)) (h1 : P.underlying f1.type = some (.int .i64)) (h2 : P.underlying f2.type = some (.int .i64))
    (h : DataW.Trod enc P W 0 (fun _ => true) true t (.slice A n c) d p) : ∃ L, InC W A L n c := by
  obtain ⟨fuel, hf⟩ := h
  rcases Go.Deep.open_slice ht hf with ⟨hcs, _⟩ | ⟨a, len, cap, m, k, D, Pl, hcs, _, hl, hm, hmm, _, hx⟩
  · simp [Value.cells] at hcs
    obtain ⟨rfl, rfl, rfl⟩ := hcs
    exact ⟨[], ⟨.inl rfl, rfl, Nat.le_refl _, by unfold maxLen; omega, fun _ => ⟨rfl, rfl⟩, fun x hx => by cases hx⟩⟩
  · simp [Value.cells] at hcs
    obtain ⟨rfl, rfl, rfl⟩ := hcs
    simp only [if_true] at hmm
    subst hmm
    have each : ∀ i, i < n → ∃ x : CoM, W.cell? (a.add (i * 3)) = some (.int .i64 x.what) ∧ W.cell? (a.add (i * 3 + 1)) = some (.int .i64 x.id) ∧ W.cell? (a.add (i * 3 + 2)) = some (.int .i64 x.n) ∧ ((Lit.int .i64 x.what).wf = true ∧ (Lit.int .i64 x.id).wf = true ∧ (Lit.int .i64 x.n).wf = true) := by
      intro i hi
      obtain ⟨cs', g1, g2⟩ := hx i (by omega)
      rw [ce] at g1
      obtain ⟨_, hlen, hcell⟩ := World.cells?_some g1
      obtain ⟨xs, k', _, _, _, hxl, hfs⟩ := DataW.trod_struct he g2
      match xs, hxl, cs', hlen with
      | [y0, y1, y2], _, [v0, v1, v2], _ =>
        have t0 := hfs 0 f0 rfl
        have t1 := hfs 1 f1 rfl
        have t2 := hfs 2 f2 rfl
        simp [o0, o1, o2, c0, c1, c2] at t0 t1 t2
        obtain ⟨n0, e0, _, w0⟩ := DataW.trod_int h0 t0
        obtain ⟨n1, e1, _, w1⟩ := DataW.trod_int h1 t1
        obtain ⟨n2, e2, _, w2⟩ := DataW.trod_int h2 t2
        obtain rfl : v0 = .int .i64 n0 := by simpa using e0
        obtain rfl : v1 = .int .i64 n1 := by simpa using e1
        obtain rfl : v2 = .int .i64 n2 := by simpa using e2
        have q0 := hcell 0 (by omega)
        have q1 := hcell 1 (by omega)
        have q2 := hcell 2 (by omega)
        rw [Go.Deep.add_add] at q0 q1 q2
        exact ⟨⟨n0, n1, n2⟩, by simpa using q0, by simpa using q1, by simpa using q2, w0, w1, w2⟩
    obtain ⟨F, hF⟩ := Go.Deep.choose_lt each
    refine ⟨(List.range n).map F, ⟨?_, by simp, hl, hm, (fun h => by cases h), fun x hx => ?_⟩⟩
    · by_cases hn : n = 0
      · left; rw [hn]; rfl
      · right
        obtain ⟨b, o, spot⟩ := a
        have hc0 := (hF 0 (by omega)).1
        have hspot : spot = none := by simpa [Addr.add] using World.cell?_spot hc0
        subst hspot
        refine ⟨b, o, rfl, ?_, fun i hi => ?_⟩
        · have := World.block_lt_of_cell? W _ hc0
          rw [add_plain] at this
          exact this
        · have hi' : i < n := by simpa using hi
          have e : ((List.range n).map F)[i] = F i := by simp
          rw [e]
          obtain ⟨r0, r1, r2, _⟩ := hF i hi'
          rw [add_plain] at r0 r1 r2
          exact ⟨r0, r1, r2⟩
    · obtain ⟨i, hi, rfl⟩ := List.mem_map.1 hx
      exact (hF i (List.mem_range.1 hi)).2.2.2
end Go.Proofs.Ytinjldjpncijjaa
