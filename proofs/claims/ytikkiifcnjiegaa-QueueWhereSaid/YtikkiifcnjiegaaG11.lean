/- Len, VtIn: texts of this seat, one behind the other. -/
import Derived.Test.YtikkiifcnjiegaaG1
import Derived.SizedLaws
import Derived.Test.YtikkiifcnjiegaaG10
/- How long a slice of bytes that came in can be, out of the row's reach. Nothing of the program is named here. -/
namespace Go.Proofs.Ytikkiifcnjiegaa
set_option linter.unusedVariables false
set_option maxRecDepth 100000
set_option linter.unusedSimpArgs false
open Go.ChangeShapes Go.WideShapes Go.ChangeAt Go.RowKit

theorem open_len {H : Type} {enc : TypeId × Value → H} {P : Program} {W : World} {A : Option Addr} {n c : Nat} {t e : TypeId} {d : DataW H} {p : List MemPlace} {ts : List TypeId} {ds : List (DataW H)} {j : Nat} (ht : P.underlying t = some (.slice e)) (he : P.bytesOf e = 1)
    (h : DataW.Trod enc P W 0 (fun _ => true) true t (.slice A n c) d p) (hz : (DataW.weightsEach P ts ds).all (· ≤ reachBytes) = true) (hj : ts[j]? = some t) (hd : ds[j]? = some d) : n ≤ 140737488355328 := by
  obtain ⟨fuel, hf⟩ := h
  rcases DataW.trod_slice ht hf with ⟨hcs, _⟩ | ⟨a, len, cap, elems, rest, m, _, hcs, hx, _, _, _, hlen, _⟩
  · simp [Value.cells] at hcs
    omega
  · simp [Value.cells] at hcs
    obtain ⟨rfl, rfl, rfl⟩ := hcs
    injection hx with hx1 hx2
    subst hx1
    have h1 := sized_slice hz hj hd ht
    rw [he, Nat.mul_one, List.length_map, List.length_map, hlen] at h1
    have h2 : reachBytes < 140737488355328 := reachBytes_lt
    omega
end Go.Proofs.Ytikkiifcnjiegaa

/- Calls of a vault that came in: a slice of structs of a number, four texts and a number; a text that came in, with its size out of the row's reach. -/
namespace Go.Proofs.Ytikkiifcnjiegaa
set_option linter.unusedVariables false
set_option maxRecDepth 100000
set_option linter.unusedSimpArgs false
open Go.ChangeShapes Go.WideShapes Go.ChangeAt Go.RowKit Go.Deep

structure Vo where
  what : Int
  tn : ByteArray
  tk : ByteArray
  nn : ByteArray
  pf : ByteArray
  now : Int
abbrev ocs (x : Vo) : Array Value := #[.int .i64 x.what, .string x.tn, .string x.tk, .string x.nn, .string x.pf, .int .i64 x.now]
def Vo.sm (x : Vo) : Prop := x.tn.size ≤ 140737488355328 ∧ x.tk.size ≤ 140737488355328 ∧ x.nn.size ≤ 140737488355328 ∧ x.pf.size ≤ 140737488355328
instance : Inhabited Vo := ⟨⟨0, ByteArray.empty, ByteArray.empty, ByteArray.empty, ByteArray.empty, 0⟩⟩
structure InOps (W : World) (A : Option Addr) (l : List Vo) (c : Nat) : Prop where
  r : Rw 6 ocs W A l
  f : Fit A l.length c
  n : l.length ≤ 140737488355328
  sm : ∀ x ∈ l, x.sm
theorem InOps.on {w w' : World} {A : Option Addr} {l : List Vo} {c : Nat} (h : InOps w A l c) (hb : Below w.heap.size w w') : InOps w' A l c := ⟨h.r.on hb, h.f, h.n, h.sm⟩
theorem InOps.at6 {w : World} {A : Option Addr} {l : List Vo} {c : Nat} (h : InOps w A l c) (i : Nat) (hi : i < l.length) :
    ∃ b o x, A = some ⟨b, o, none⟩ ∧ l[i]? = some x ∧ x.sm ∧ ∀ u, Below w.heap.size w u → u.cell? ⟨b, o + i * 6, none⟩ = some (.int .i64 x.what) ∧ u.cell? ⟨b, o + i * 6 + 1, none⟩ = some (.string x.tn) ∧ u.cell? ⟨b, o + i * 6 + 2, none⟩ = some (.string x.tk) ∧ u.cell? ⟨b, o + i * 6 + 3, none⟩ = some (.string x.nn) ∧ u.cell? ⟨b, o + i * 6 + 4, none⟩ = some (.string x.pf) ∧ u.cell? ⟨b, o + i * 6 + 5, none⟩ = some (.int .i64 x.now) := by
  obtain ⟨b, o, x, h1, h2, h3⟩ := Rw.at_ h.r i hi
  exact ⟨b, o, x, h1, h2, h.sm x (List.mem_of_getElem? h2), fun u hb => ⟨h3 u hb 0 (by omega), h3 u hb 1 (by omega), h3 u hb 2 (by omega), h3 u hb 3 (by omega), h3 u hb 4 (by omega), h3 u hb 5 (by omega)⟩⟩

theorem sixV {cs : List Value} (h : cs.length = 6) : ∃ a b c d e f, cs = [a, b, c, d, e, f] := by
  match cs, h with
  | [a, b, c, d, e, f], _ => exact ⟨a, b, c, d, e, f, rfl⟩
/-- A text that came in. -/
theorem open_ustr {H : Type} {enc : TypeId × Value → H} {W : World} {r : Reach} {b0 : Nat} {v : Value} {d : DataW H} {p : List MemPlace} {ts : List TypeId} {ds : List (DataW H)} {j : Nat} (hv : Value.okWide Try.prog W r b0 9 v) (h : DataW.Trod enc Try.prog W 0 (fun _ => true) true 9 v d p)
    (hz : (DataW.weightsEach Try.prog ts ds).all (· ≤ reachBytes) = true) (hj : ts[j]? = some 9) (hd : ds[j]? = some d) : ∃ s : ByteArray, v = .string s ∧ s.size ≤ 140737488355328 := by
  obtain ⟨a, rfl, rfl, rfl, w⟩ := Go.ChangeMaps.open_string Try.underlying9 hv h
  refine ⟨a, rfl, ?_⟩
  have := List.all_eq_true.1 hz _ (DataW.weights_mem_each hj hd a.data.toList.length (by simp [DataW.weights]))
  have h1 : a.data.toList.length ≤ reachBytes := by simpa using this
  have h2 : reachBytes < 140737488355328 := reachBytes_lt
  have h3 : a.data.toList.length = a.size := rfl
  omega
end Go.Proofs.Ytikkiifcnjiegaa
