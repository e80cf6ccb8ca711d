/- A message that came in, by value. -/
import Derived.Test.YtekobdmlgbffnaaDoorG14
import Derived.Test.YtekobdmlgbffnaaDoorG15
import Derived.Test.YtekobdmlgbffnaaDoorRows
import Derived.ProofKit
import Derived.OpenShut
import Derived.ShutString
import Derived.Deep.Fields
import Derived.SizedLaws
namespace Go.Proofs.YtekobdmlgbffnaaDoor
set_option linter.unusedVariables false
set_option maxRecDepth 100000
set_option linter.unusedSimpArgs false
open Go.ChangeShapes Go.WideShapes Go.ChangeAt Go.RowKit Go.Deep

/-- One field of a struct whose fields are one cell each: its own reading. -/
theorem one_field {H : Type} {enc : TypeId × Value → H} {P : Program} {w : World} {base : Nat} {spare : Nat → Bool} {held : Bool} {t : TypeId} {fs : Array Field} {cs : Array Value} {d : DataW H} {p : List MemPlace}
    (hs : P.underlying t = some (.struct fs)) (hone : oneCellFields P fs = true) (h : DataW.Trod enc P w base spare held t (.agg cs) d p) (i : Nat) (f : Field) (hf : fs[i]? = some f) (c : Value) (hc : cs[i]? = some c) :
    ∃ n y parts, d = .agg parts ∧ parts[i]? = some y.1 ∧ DataW.trod enc P w base spare held n f.type [c] = some y := by
  obtain ⟨fuel, hfu⟩ := h
  obtain ⟨xs, n, _, hx, _, hlen, hg⟩ := DataW.trod_struct hs hfu
  injection hx with hd _
  obtain ⟨ho, hk⟩ := hone_of hone i f hf
  have hi : i < fs.size := (Array.getElem?_eq_some_iff.1 hf).1
  have h1 := hg i f hf
  have hcl : cs.toList[i]? = some c := by rw [Array.getElem?_toList]; exact hc
  have hil : i < cs.toList.length := (List.getElem?_eq_some_iff.1 hcl).1
  have e : ((Value.agg cs).cells.toList.drop i).take 1 = [c] := by
    show (cs.toList.drop i).take 1 = [c]
    rw [List.drop_eq_getElem_cons hil]
    have : cs.toList[i] = c := (List.getElem?_eq_some_iff.1 hcl).2
    rw [this]; rfl
  rw [ho, hk] at h1
  refine ⟨n, xs[i]'(by omega), _, hd, by rw [List.getElem?_map, List.getElem?_eq_getElem (by omega)]; rfl, ?_⟩
  rw [← e]
  exact h1.trans (List.getElem?_eq_getElem (by omega))

theorem msg_fields : ∃ f0 f1 f2 f3 f4, Tryd.prog.underlying 34 = some (.struct #[f0, f1, f2, f3, f4]) ∧ f0.type = 3 ∧ f1.type = 9 ∧ f2.type = 9 ∧ f3.type = 2 ∧ f4.type = 2 ∧ oneCellFields Tryd.prog #[f0, f1, f2, f3, f4] = true :=
  ⟨_, _, _, _, _, Tryd.underlying34, rfl, rfl, rfl, rfl, rfl, by kernel_rfl⟩
theorem msg_cells : Tryd.prog.cellsOf 34 = 5 := by kernel_rfl

theorem open_msg {H : Type} {enc : TypeId × Value → H} {W : World} {r : Reach} {b0 base : Nat} {spare : Nat → Bool} {held : Bool} {v : Value} {d : DataW H} {p : List MemPlace} {ts : List TypeId} {ds : List (DataW H)} {j : Nat} (hv : Value.okWide Tryd.prog W r b0 34 v) (h : DataW.Trod enc Tryd.prog W base spare held 34 v d p)
    (hz : (DataW.weightsEach Tryd.prog ts ds).all (· ≤ reachBytes) = true) (hj : ts[j]? = some 34) (hd : ds[j]? = some d) :
    ∃ x : Mg, v = .agg x.cells ∧ x.a.size ≤ 140737488355328 ∧ x.b.size ≤ 140737488355328 := by
  obtain ⟨f0, f1, f2, f3, f4, hu, t0, t1, t2, t3, t4, hone⟩ := msg_fields
  obtain ⟨cs, rfl, hsz⟩ := okWide_struct hu hv
  rw [msg_cells] at hsz
  have at_ : ∀ i, i < 5 → ∃ c, cs[i]? = some c := fun i hi => ⟨cs[i]'(by omega), Array.getElem?_eq_getElem (by omega)⟩
  obtain ⟨c0, e0⟩ := at_ 0 (by omega)
  obtain ⟨c1, e1⟩ := at_ 1 (by omega)
  obtain ⟨c2, e2⟩ := at_ 2 (by omega)
  obtain ⟨c3, e3⟩ := at_ 3 (by omega)
  obtain ⟨c4, e4⟩ := at_ 4 (by omega)
  obtain ⟨n0, y0, p0, dp0, hp0, r0⟩ := one_field hu hone h 0 f0 rfl c0 e0
  obtain ⟨n1, y1, p1, dp1, hp1, r1⟩ := one_field hu hone h 1 f1 rfl c1 e1
  obtain ⟨n2, y2, p2, dp2, hp2, r2⟩ := one_field hu hone h 2 f2 rfl c2 e2
  obtain ⟨n3, y3, p3, dp3, hp3, r3⟩ := one_field hu hone h 3 f3 rfl c3 e3
  obtain ⟨n4, y4, p4, dp4, hp4, r4⟩ := one_field hu hone h 4 f4 rfl c4 e4
  rw [t0] at r0
  rw [t1] at r1
  rw [t2] at r2
  rw [t3] at r3
  rw [t4] at r4
  obtain ⟨k, q0, _, _⟩ := DataW.trod_int Tryd.underlying3 r0
  obtain ⟨a, q1, ya, _⟩ := DataW.trod_string Tryd.underlying9 r1
  obtain ⟨b, q2, yb, _⟩ := DataW.trod_string Tryd.underlying9 r2
  obtain ⟨n, q3, _, _⟩ := DataW.trod_int Tryd.underlying2 r3
  obtain ⟨m, q4, _, _⟩ := DataW.trod_int Tryd.underlying2 r4
  rw [ya] at hp1
  rw [yb] at hp2
  have hwt : ∀ (i : Nat) (s : ByteArray) (pp : List (DataW H)), d = .agg pp → (i = 1 ∨ i = 2) → pp[i]? = some (.lit (.string s.data.toList)) → s.size ≤ 140737488355328 := by
    intro i s pp hpp hi hps
    have hmem : s.data.toList.length ∈ DataW.weights Tryd.prog 34 d := by
      rw [hpp]
      have hu' := hu
      simp only [DataW.weights, hu']
      refine DataW.weights_mem_each (j := i) (t := 9) (d := .lit (.string s.data.toList)) ?_ hps _ (by simp [DataW.weights])
      rcases hi with rfl | rfl
      · simp [t1]
      · simp [t2]
    have h1 := List.all_eq_true.1 hz _ (DataW.weights_mem_each hj hd _ hmem)
    have h2 : reachBytes < 140737488355328 := reachBytes_lt
    have h3 : s.data.toList.length ≤ reachBytes := by simpa using h1
    have h4 : s.data.toList.length = s.size := rfl
    omega
  have ha := hwt 1 a p1 dp1 (.inl rfl) hp1
  have hb := hwt 2 b p2 dp2 (.inr rfl) hp2
  injection q0 with q0
  injection q1 with q1
  injection q2 with q2
  injection q3 with q3
  injection q4 with q4
  subst q0; subst q1; subst q2; subst q3; subst q4
  refine ⟨⟨k, a, b, n, m⟩, ?_, ha, hb⟩
  congr 1
  apply Array.ext_getElem?
  intro i
  match i with
  | 0 => exact e0
  | 1 => exact e1
  | 2 => exact e2
  | 3 => exact e3
  | 4 => exact e4
  | i + 5 => rw [Array.getElem?_eq_none (by omega)]; rfl
end Go.Proofs.YtekobdmlgbffnaaDoor
