/- CgIn, VtIn, PartIn, OneF, TcIn: texts of this seat, one behind the other. -/
import Derived.Test.YtinbegnojfpeiaaDoorG7
import Derived.ProofKit
import Derived.OpenShut
import Derived.ShutString
import Derived.Deep.Fields
import Derived.Deep.SlicePairs
import Derived.Deep.Strs
import Derived.SizedLaws
import Derived.Test.YtinbegnojfpeiaaDoorRows
import Derived.Test.YtinbegnojfpeiaaDoorG1
/- A configuration that came in, by value: from the row's reading to 'RC', with bounds out of the row's reach. -/
namespace Go.Proofs.YtinbegnojfpeiaaDoor
set_option linter.unusedVariables false
set_option maxRecDepth 100000
set_option linter.unusedSimpArgs false
open Go.ChangeShapes Go.WideShapes Go.ChangeAt Go.RowKit Go.Deep

section
variable {H : Type} {enc : TypeId × Value → H} {P : Program} {W : World} {t e : TypeId}

/-- Every weight of it is within the reach. -/
def Wt (P : Program) (t : TypeId) (d : DataW H) : Prop := ∀ n ∈ d.weights P t, n ≤ reachBytes
theorem wt_all : ∀ (l : List (DataW H)), (∀ n ∈ DataW.weightsAll P e l, n ≤ reachBytes) → ∀ x ∈ l, Wt P e x
  | [], _, _, h => by cases h
  | d :: r, h, x, hx => by
    simp only [DataW.weightsAll, List.mem_append] at h
    rcases List.mem_cons.1 hx with hx | hx
    · subst hx; exact fun n hn => h n (.inl hn)
    · exact wt_all r (fun n hn => h n (.inr hn)) x hx
theorem Wt.slice {el sp : List (DataW H)} (hu : P.underlying t = some (.slice e)) (h : Wt P t (.slice el sp)) : el.length * P.bytesOf e ≤ reachBytes ∧ ∀ x ∈ el, Wt P e x := by
  unfold Wt at h
  simp only [DataW.weights, hu] at h
  refine ⟨?_, wt_all el fun n hn => h n (by simp [hn])⟩
  have := h ((el.length + sp.length) * P.bytesOf e) (by simp)
  exact Nat.le_trans (Nat.mul_le_mul_right _ (Nat.le_add_right _ _)) this
theorem Wt.part {fs : Array Field} {parts : List (DataW H)} (hu : P.underlying t = some (.struct fs)) (h : Wt P t (.agg parts)) {j : Nat} {f : Field} {d : DataW H} (hf : fs[j]? = some f) (hd : parts[j]? = some d) : Wt P f.type d := fun n hn => by
  unfold Wt at h
  simp only [DataW.weights, hu] at h
  exact h n (DataW.weights_mem_each (j := j) (t := f.type) (d := d) (by simp [hf]) hd n hn)

theorem open_each {fs : Array Field} {A : Option Addr} {n c k : Nat} {y : DataW H × List MemPlace} {fuel : Nat} (ht : P.underlying t = some (.slice e)) (he : P.underlying e = some (.struct fs)) (ce : P.cellsOf e = k) (h1 : 1 ≤ P.bytesOf e)
    (h : DataW.trod enc P W 0 (fun _ => true) true fuel t [.slice A n c] = some y) (hw : Wt P t y.1) :
    (A = none ∧ n = 0 ∧ c = 0) ∨ ∃ a, A = some a ∧ n ≤ c ∧ c ≤ maxLen ∧ n ≤ reachBytes ∧ ∀ i, i < n → ∃ cs fuel' z, cs.length = k ∧ (∀ j, (hj : j < cs.length) → W.cell? (a.add (i * k + j)) = some cs[j]) ∧ DataW.trod enc P W 0 (fun _ => true) true fuel' e cs = some z ∧ Wt P e z.1 := by
  rcases open_slice ht h with ⟨hcs, _⟩ | ⟨a, len, cap, m, k', D, Pl, hcs, _, hl, hm, hmm, hy, hx⟩
  · left
    simpa using hcs
  · right
    simp only [List.cons.injEq, Value.slice.injEq, and_true] at hcs
    obtain ⟨rfl, rfl, rfl⟩ := hcs
    simp only [if_true] at hmm
    subst hmm
    subst hy
    obtain ⟨w1, w2⟩ := Wt.slice ht hw
    rw [List.length_map, List.length_range] at w1
    refine ⟨a, rfl, hl, hm, Nat.le_trans (Nat.le_mul_of_pos_right _ h1) w1, fun i hi => ?_⟩
    obtain ⟨cs', g1, g2⟩ := hx i (by omega)
    rw [ce] at g1
    obtain ⟨_, hlen, hcell⟩ := World.cells?_some g1
    refine ⟨cs', k', _, hlen, fun j hj => ?_, g2, w2 _ (List.mem_map.2 ⟨i, List.mem_range.2 hi, rfl⟩)⟩
    have := hcell j (by omega)
    rw [Go.Deep.add_add] at this
    rw [this]
    exact List.getElem?_eq_getElem hj
theorem open_field {fs : Array Field} {cs : List Value} {y : DataW H × List MemPlace} {fuel : Nat} (he : P.underlying e = some (.struct fs)) (hone : oneCellFields P fs = true) (h : DataW.trod enc P W 0 (fun _ => true) true fuel e cs = some y) (hw : Wt P e y.1)
    (i : Nat) (f : Field) (hf : fs[i]? = some f) (v : Value) (hv : cs[i]? = some v) : ∃ n z, DataW.trod enc P W 0 (fun _ => true) true n f.type [v] = some z ∧ Wt P f.type z.1 := by
  obtain ⟨xs, n, _, hx, _, hlen, hg⟩ := DataW.trod_struct he h
  subst hx
  obtain ⟨ho, hk⟩ := hone_of hone i f hf
  have hi : i < fs.size := (Array.getElem?_eq_some_iff.1 hf).1
  have h1 := hg i f hf
  have hil : i < cs.length := (List.getElem?_eq_some_iff.1 hv).1
  have e1 : (cs.drop i).take 1 = [v] := by
    rw [List.drop_eq_getElem_cons hil]
    have : cs[i] = v := (List.getElem?_eq_some_iff.1 hv).2
    rw [this]; rfl
  rw [ho, hk, e1] at h1
  refine ⟨n, xs[i]'(by omega), h1.trans (List.getElem?_eq_getElem (by omega)), Wt.part he hw hf ?_⟩
  rw [List.getElem?_map, List.getElem?_eq_getElem (by omega)]; rfl
theorem open_str {v : Value} {n : Nat} {z : DataW H × List MemPlace} (hu : P.underlying t = some .string) (h : DataW.trod enc P W 0 (fun _ => true) true n t [v] = some z) (hw : Wt P t z.1) : ∃ s : ByteArray, v = .string s ∧ s.size ≤ 140737488355328 := by
  obtain ⟨s, q, hz, _⟩ := DataW.trod_string hu h
  refine ⟨s, by simpa using q, ?_⟩
  rw [hz] at hw
  have h1 : s.data.toList.length ≤ reachBytes := hw _ (by simp [DataW.weights])
  have h2 : reachBytes < 140737488355328 := reachBytes_lt
  have h3 : s.data.toList.length = s.size := rfl
  omega
theorem open_num {v : Value} {n : Nat} {k : IntKind} {z : DataW H × List MemPlace} (hu : P.underlying t = some (.int k)) (h : DataW.trod enc P W 0 (fun _ => true) true n t [v] = some z) : ∃ a : Int, v = .int k a ∧ (Lit.int k a).wf = true := by
  obtain ⟨a, q, _, w⟩ := DataW.trod_int hu h
  exact ⟨a, by simpa using q, w⟩
theorem open_slice_of {v : Value} {n : Nat} {z : DataW H × List MemPlace} (hu : P.underlying t = some (.slice e)) (h : DataW.trod enc P W 0 (fun _ => true) true n t [v] = some z) : ∃ A m c, v = .slice A m c := by
  rcases open_slice hu h with ⟨hcs, _⟩ | ⟨a, len, cap, m, k', D, Pl, hcs, _⟩
  · exact ⟨none, 0, 0, by simpa using hcs⟩
  · exact ⟨some a, len, cap, by simpa using hcs⟩
end

theorem lit_u32 {a : Int} (h : (Lit.int .u32 a).wf = true) : 0 ≤ a ∧ a < 4294967296 := by
  have hmin : IntKind.u32.min = 0 := by decide
  have hmax : IntKind.u32.max = 4294967295 := by decide
  simp only [Lit.wf, Bool.and_eq_true, decide_eq_true_eq, hmin, hmax] at h
  omega
/-- The rows of a slice, out of what each place reads as. -/
theorem rw_of {β : Type} [Inhabited β] {W : World} {k : Nat} (hk : 0 < k) {f : β → Array Value} {A : Option Addr} {n c : Nat} {p : β → Prop} {R : Nat}
    (h : (A = none ∧ n = 0 ∧ c = 0) ∨ ∃ a, A = some a ∧ n ≤ c ∧ c ≤ maxLen ∧ n ≤ R ∧ ∀ i, i < n → ∃ x : β, p x ∧ ∀ j, j < k → W.cell? (a.add (i * k + j)) = (f x)[j]?)
    (hf : ∀ x, (f x).size = k) : ∃ l : List β, l.length = n ∧ Rw k f W A l ∧ Fit A l.length c ∧ n ≤ R ∧ ∀ x ∈ l, p x := by
  rcases h with ⟨rfl, rfl, rfl⟩ | ⟨a, rfl, hl, hm, hr, hx⟩
  · exact ⟨[], rfl, .inl rfl, ⟨by simp, by omega, fun _ => ⟨rfl, rfl⟩⟩, Nat.zero_le _, fun x hx => by cases hx⟩
  · obtain ⟨F, hF⟩ := Go.Deep.choose_lt hx
    unfold maxLen at hm
    refine ⟨(List.range n).map F, by simp, ?_, ⟨by simpa using hl, by omega, fun h => by cases h⟩, hr, fun x hx => ?_⟩
    · by_cases hn : n = 0
      · left; rw [hn]; rfl
      · right
        obtain ⟨b, o, spot⟩ := a
        obtain ⟨_, h0⟩ := hF 0 (by omega)
        have h00 := h0 0 hk
        rw [Array.getElem?_eq_getElem (by rw [hf]; exact hk)] at h00
        have hspot : spot = none := by simpa [Addr.add] using World.cell?_spot h00
        subst hspot
        refine ⟨b, o, rfl, ?_, fun i hi j hj => ?_⟩
        · have := World.block_lt_of_cell? W _ h00
          rw [add_plain] at this
          exact this
        · have hi' : i < n := by simpa using hi
          have e : ((List.range n).map F)[i] = F i := by simp
          rw [e]
          have := (hF i hi').2 j hj
          rw [add_plain] at this
          rw [Nat.add_assoc]
          exact this
    · obtain ⟨i, hi, rfl⟩ := List.mem_map.1 hx
      exact (hF i (List.mem_range.1 hi)).1

instance : Inhabited Nt := ⟨⟨0, 0⟩⟩
instance : Inhabited Tk := ⟨⟨ByteArray.empty, ByteArray.empty, 0⟩⟩
instance : Inhabited Tv := ⟨⟨⟨ByteArray.empty, 0, 0, [], []⟩, none, 0, none, 0⟩⟩

theorem five {cs : List Value} (h : cs.length = 5) : ∃ a b c d e, cs = [a, b, c, d, e] := by
  match cs, h with
  | [a, b, c, d, e], _ => exact ⟨a, b, c, d, e, rfl⟩

section
variable {H : Type} {enc : TypeId × Value → H} {W : World}
/-- A tenant that came in. -/
structure InTv (W : World) (x : Tv) : Prop where
  r : RT1 W x
  nn : x.t.nets.length ≤ 140737488355328
  nk : x.t.toks.length ≤ 140737488355328
end
/-- A configuration that came in. -/
structure InCf (W : World) (x : Cv) : Prop where
  rc : RC W x
  n : x.ts.length ≤ 140737488355328
  each : ∀ y ∈ x.ts, InTv W y

end Go.Proofs.YtinbegnojfpeiaaDoor

/- Calls of a vault that came in: a slice of structs of a number, four texts and a number; a text that came in, with its size out of the row's reach. -/
namespace Go.Proofs.YtinbegnojfpeiaaDoor
set_option linter.unusedVariables false
set_option maxRecDepth 100000
set_option linter.unusedSimpArgs false
open Go.ChangeShapes Go.WideShapes Go.ChangeAt Go.RowKit Go.Deep

structure Vo where
  what : Int
  tn : ByteArray
  tk : ByteArray
  nn : ByteArray
  pf : ByteArray
  now : Int
abbrev ocs (x : Vo) : Array Value := #[.int .i64 x.what, .string x.tn, .string x.tk, .string x.nn, .string x.pf, .int .i64 x.now]
def Vo.sm (x : Vo) : Prop := x.tn.size ≤ 140737488355328 ∧ x.tk.size ≤ 140737488355328 ∧ x.nn.size ≤ 140737488355328 ∧ x.pf.size ≤ 140737488355328
instance : Inhabited Vo := ⟨⟨0, ByteArray.empty, ByteArray.empty, ByteArray.empty, ByteArray.empty, 0⟩⟩
structure InOps (W : World) (A : Option Addr) (l : List Vo) (c : Nat) : Prop where
  r : Rw 6 ocs W A l
  f : Fit A l.length c
  n : l.length ≤ 140737488355328
  sm : ∀ x ∈ l, x.sm
theorem InOps.on {w w' : World} {A : Option Addr} {l : List Vo} {c : Nat} (h : InOps w A l c) (hb : Below w.heap.size w w') : InOps w' A l c := ⟨h.r.on hb, h.f, h.n, h.sm⟩
theorem InOps.at6 {w : World} {A : Option Addr} {l : List Vo} {c : Nat} (h : InOps w A l c) (i : Nat) (hi : i < l.length) :
    ∃ b o x, A = some ⟨b, o, none⟩ ∧ l[i]? = some x ∧ x.sm ∧ ∀ u, Below w.heap.size w u → u.cell? ⟨b, o + i * 6, none⟩ = some (.int .i64 x.what) ∧ u.cell? ⟨b, o + i * 6 + 1, none⟩ = some (.string x.tn) ∧ u.cell? ⟨b, o + i * 6 + 2, none⟩ = some (.string x.tk) ∧ u.cell? ⟨b, o + i * 6 + 3, none⟩ = some (.string x.nn) ∧ u.cell? ⟨b, o + i * 6 + 4, none⟩ = some (.string x.pf) ∧ u.cell? ⟨b, o + i * 6 + 5, none⟩ = some (.int .i64 x.now) := by
  obtain ⟨b, o, x, h1, h2, h3⟩ := Rw.at_ h.r i hi
  exact ⟨b, o, x, h1, h2, h.sm x (List.mem_of_getElem? h2), fun u hb => ⟨h3 u hb 0 (by omega), h3 u hb 1 (by omega), h3 u hb 2 (by omega), h3 u hb 3 (by omega), h3 u hb 4 (by omega), h3 u hb 5 (by omega)⟩⟩

theorem sixV {cs : List Value} (h : cs.length = 6) : ∃ a b c d e f, cs = [a, b, c, d, e, f] := by
  match cs, h with
  | [a, b, c, d, e, f], _ => exact ⟨a, b, c, d, e, f, rfl⟩
/-- A text that came in. -/
theorem open_ustr {H : Type} {enc : TypeId × Value → H} {W : World} {r : Reach} {b0 : Nat} {v : Value} {d : DataW H} {p : List MemPlace} {ts : List TypeId} {ds : List (DataW H)} {j : Nat} (hv : Value.okWide Tryd.prog W r b0 9 v) (h : DataW.Trod enc Tryd.prog W 0 (fun _ => true) true 9 v d p)
    (hz : (DataW.weightsEach Tryd.prog ts ds).all (· ≤ reachBytes) = true) (hj : ts[j]? = some 9) (hd : ds[j]? = some d) : ∃ s : ByteArray, v = .string s ∧ s.size ≤ 140737488355328 := by
  obtain ⟨a, rfl, rfl, rfl, w⟩ := Go.ChangeMaps.open_string Tryd.underlying9 hv h
  refine ⟨a, rfl, ?_⟩
  have := List.all_eq_true.1 hz _ (DataW.weights_mem_each hj hd a.data.toList.length (by simp [DataW.weights]))
  have h1 : a.data.toList.length ≤ reachBytes := by simpa using this
  have h2 : reachBytes < 140737488355328 := reachBytes_lt
  have h3 : a.data.toList.length = a.size := rfl
  omega
end Go.Proofs.YtinbegnojfpeiaaDoor

/- One field of a struct, of however many cells. Nothing of the program is named here. -/
namespace Go.Proofs.YtinbegnojfpeiaaDoor
set_option linter.unusedVariables false
set_option maxRecDepth 100000
set_option linter.unusedSimpArgs false
open Go.ChangeShapes Go.WideShapes Go.ChangeAt Go.RowKit Go.Deep

section
variable {H : Type} {enc : TypeId × Value → H} {P : Program} {W : World} {e : TypeId}
/-- One field of a struct, of however many cells. -/
theorem open_part {fs : Array Field} {cs : List Value} {y : DataW H × List MemPlace} {fuel : Nat} (he : P.underlying e = some (.struct fs)) (h : DataW.trod enc P W 0 (fun _ => true) true fuel e cs = some y) (hw : Wt P e y.1)
    (i : Nat) (f : Field) (hf : fs[i]? = some f) : ∃ n z, DataW.trod enc P W 0 (fun _ => true) true n f.type ((cs.drop f.offset).take (P.cellsOf f.type)) = some z ∧ Wt P f.type z.1 := by
  obtain ⟨xs, n, _, hx, _, hlen, hg⟩ := DataW.trod_struct he h
  subst hx
  have hi : i < fs.size := (Array.getElem?_eq_some_iff.1 hf).1
  have h1 := hg i f hf
  refine ⟨n, xs[i]'(by omega), h1.trans (List.getElem?_eq_getElem (by omega)), Wt.part he hw hf ?_⟩
  rw [List.getElem?_map, List.getElem?_eq_getElem (by omega)]; rfl
end
end Go.Proofs.YtinbegnojfpeiaaDoor

/- One field of a struct that came in, by value. Nothing of the program is named here. -/
namespace Go.Proofs.YtinbegnojfpeiaaDoor
set_option linter.unusedVariables false
set_option maxRecDepth 100000
set_option linter.unusedSimpArgs false
open Go.ChangeShapes Go.WideShapes Go.ChangeAt Go.RowKit Go.Deep

/-- One field of a struct whose fields are one cell each: its own reading. -/
theorem one_field {H : Type} {enc : TypeId × Value → H} {P : Program} {w : World} {base : Nat} {spare : Nat → Bool} {held : Bool} {t : TypeId} {fs : Array Field} {cs : Array Value} {d : DataW H} {p : List MemPlace}
    (hs : P.underlying t = some (.struct fs)) (hone : oneCellFields P fs = true) (h : DataW.Trod enc P w base spare held t (.agg cs) d p) (i : Nat) (f : Field) (hf : fs[i]? = some f) (c : Value) (hc : cs[i]? = some c) :
    ∃ n y parts, d = .agg parts ∧ parts[i]? = some y.1 ∧ DataW.trod enc P w base spare held n f.type [c] = some y := by
  obtain ⟨fuel, hfu⟩ := h
  obtain ⟨xs, n, _, hx, _, hlen, hg⟩ := DataW.trod_struct hs hfu
  injection hx with hd _
  obtain ⟨ho, hk⟩ := hone_of hone i f hf
  have hi : i < fs.size := (Array.getElem?_eq_some_iff.1 hf).1
  have h1 := hg i f hf
  have hcl : cs.toList[i]? = some c := by rw [Array.getElem?_toList]; exact hc
  have hil : i < cs.toList.length := (List.getElem?_eq_some_iff.1 hcl).1
  have e : ((Value.agg cs).cells.toList.drop i).take 1 = [c] := by
    show (cs.toList.drop i).take 1 = [c]
    rw [List.drop_eq_getElem_cons hil]
    have : cs.toList[i] = c := (List.getElem?_eq_some_iff.1 hcl).2
    rw [this]; rfl
  rw [ho, hk] at h1
  refine ⟨n, xs[i]'(by omega), _, hd, by rw [List.getElem?_map, List.getElem?_eq_getElem (by omega)]; rfl, ?_⟩
  rw [← e]
  exact h1.trans (List.getElem?_eq_getElem (by omega))

end Go.Proofs.YtinbegnojfpeiaaDoor

/- Calls of a book of tickets that came in: a slice of structs with a pass within; a pass that came in, by value. -/
namespace Go.Proofs.YtinbegnojfpeiaaDoor
set_option linter.unusedVariables false
set_option maxRecDepth 100000
set_option linter.unusedSimpArgs false
open Go.ChangeShapes Go.WideShapes Go.ChangeAt Go.RowKit Go.Deep

structure To where
  w : Int
  p : Ps
  dr : ByteArray
  a : Int
  tx : ByteArray
  tn : ByteArray
abbrev toc (x : To) : Array Value := #[.int .i64 x.w, .int .i64 x.p.vis, .string x.p.nm, .string x.p.ten, .int .i64 x.p.ep, .string x.dr, .int .i64 x.a, .string x.tx, .string x.tn]
def To.sm (x : To) : Prop := x.p.nm.size ≤ 140737488355328 ∧ x.p.ten.size ≤ 140737488355328 ∧ x.dr.size ≤ 140737488355328 ∧ x.tx.size ≤ 140737488355328 ∧ x.tn.size ≤ 140737488355328
instance : Inhabited To := ⟨⟨0, ⟨0, ByteArray.empty, ByteArray.empty, 0⟩, ByteArray.empty, 0, ByteArray.empty, ByteArray.empty⟩⟩
structure InTk (W : World) (A : Option Addr) (l : List To) (c : Nat) : Prop where
  r : Rw 9 toc W A l
  f : Fit A l.length c
  n : l.length ≤ 140737488355328
  sm : ∀ x ∈ l, x.sm
theorem InTk.on {w w' : World} {A : Option Addr} {l : List To} {c : Nat} (h : InTk w A l c) (hb : Below w.heap.size w w') : InTk w' A l c := ⟨h.r.on hb, h.f, h.n, h.sm⟩
theorem InTk.at9 {w : World} {A : Option Addr} {l : List To} {c : Nat} (h : InTk w A l c) (i : Nat) (hi : i < l.length) :
    ∃ b o x, A = some ⟨b, o, none⟩ ∧ l[i]? = some x ∧ x.sm ∧ ∀ u, Below w.heap.size w u → u.cell? ⟨b, o + i * 9, none⟩ = some (.int .i64 x.w) ∧ u.cell? ⟨b, o + i * 9 + 1, none⟩ = some (.int .i64 x.p.vis) ∧ u.cell? ⟨b, o + i * 9 + 2, none⟩ = some (.string x.p.nm) ∧ u.cell? ⟨b, o + i * 9 + 3, none⟩ = some (.string x.p.ten) ∧ u.cell? ⟨b, o + i * 9 + 4, none⟩ = some (.int .i64 x.p.ep) ∧ u.cell? ⟨b, o + i * 9 + 5, none⟩ = some (.string x.dr) ∧ u.cell? ⟨b, o + i * 9 + 6, none⟩ = some (.int .i64 x.a) ∧ u.cell? ⟨b, o + i * 9 + 7, none⟩ = some (.string x.tx) ∧ u.cell? ⟨b, o + i * 9 + 8, none⟩ = some (.string x.tn) := by
  obtain ⟨b, o, x, h1, h2, h3⟩ := Rw.at_ h.r i hi
  exact ⟨b, o, x, h1, h2, h.sm x (List.mem_of_getElem? h2), fun u hb => ⟨h3 u hb 0 (by omega), h3 u hb 1 (by omega), h3 u hb 2 (by omega), h3 u hb 3 (by omega), h3 u hb 4 (by omega), h3 u hb 5 (by omega), h3 u hb 6 (by omega), h3 u hb 7 (by omega), h3 u hb 8 (by omega)⟩⟩

theorem top_fields : ∃ f0 f1 f2 f3 f4 f5, Tryd.prog.underlying 33 = some (.struct #[f0, f1, f2, f3, f4, f5]) ∧ (f0.type = 3 ∧ f1.type = 31 ∧ f2.type = 9 ∧ f3.type = 3 ∧ f4.type = 9 ∧ f5.type = 9) ∧ (f0.offset = 0 ∧ f1.offset = 1 ∧ f2.offset = 5 ∧ f3.offset = 6 ∧ f4.offset = 7 ∧ f5.offset = 8) ∧ (Tryd.prog.cellsOf f0.type = 1 ∧ Tryd.prog.cellsOf f1.type = 4 ∧ Tryd.prog.cellsOf f2.type = 1 ∧ Tryd.prog.cellsOf f3.type = 1 ∧ Tryd.prog.cellsOf f4.type = 1 ∧ Tryd.prog.cellsOf f5.type = 1) := ⟨_, _, _, _, _, _, Tryd.underlying33, ⟨rfl, rfl, rfl, rfl, rfl, rfl⟩, ⟨by kernel_rfl, by kernel_rfl, by kernel_rfl, by kernel_rfl, by kernel_rfl, by kernel_rfl⟩, by kernel_rfl, by kernel_rfl, by kernel_rfl, by kernel_rfl, by kernel_rfl, by kernel_rfl⟩
theorem pass_fields : ∃ f0 f1 f2 f3, Tryd.prog.underlying 31 = some (.struct #[f0, f1, f2, f3]) ∧ f0.type = 3 ∧ f1.type = 9 ∧ f2.type = 9 ∧ f3.type = 2 ∧ oneCellFields Tryd.prog #[f0, f1, f2, f3] = true :=
  ⟨_, _, _, _, Tryd.underlying31, rfl, rfl, rfl, rfl, by kernel_rfl⟩
theorem pass_cells : Tryd.prog.cellsOf 31 = 4 := by kernel_rfl
theorem nineV {cs : List Value} (h : cs.length = 9) : ∃ a b c d e f g i j, cs = [a, b, c, d, e, f, g, i, j] := by
  match cs, h with
  | [a, b, c, d, e, f, g, i, j], _ => exact ⟨a, b, c, d, e, f, g, i, j, rfl⟩
set_option maxRecDepth 100000 in
theorem open_tops {H : Type} {enc : TypeId × Value → H} {W : World} {r : Reach} {b0 : Nat} {v : Value} {d : DataW H} {p : List MemPlace} {ts : List TypeId} {ds : List (DataW H)} {j : Nat} (hv : Value.okWide Tryd.prog W r b0 22 v) (h : DataW.Trod enc Tryd.prog W 0 (fun _ => true) true 22 v d p)
    (hz : (DataW.weightsEach Tryd.prog ts ds).all (· ≤ reachBytes) = true) (hj : ts[j]? = some 22) (hd : ds[j]? = some d) : ∃ A c, ∃ l : List To, v = .slice A l.length c ∧ InTk W A l c := by
  obtain ⟨f0, f1, f2, f3, f4, f5, hu, ⟨t0, t1, t2, t3, t4, t5⟩, ⟨o0, o1, o2, o3, o4, o5⟩, k0, k1, k2, k3, k4, k5⟩ := top_fields
  obtain ⟨g0, g1, g2, g3, hu', s0, s1, s2, s3, hone⟩ := pass_fields
  obtain ⟨A0, n0, c0, rfl⟩ := okWide_slice Tryd.underlying22 hv
  obtain ⟨fuel, hfu⟩ := h
  have hw : Wt Tryd.prog 22 d := fun n hn => by
    have := List.all_eq_true.1 hz _ (DataW.weights_mem_each hj hd n hn)
    simpa using this
  have hfu' : DataW.trod enc Tryd.prog W 0 (fun _ => true) true fuel 22 [.slice A0 n0 c0] = some (d, p) := hfu
  have h0 := open_each Tryd.underlying22 hu (k := 9) (by kernel_rfl) (of_decide_eq_true (by kernel_rfl)) hfu' hw
  obtain ⟨l, hl, h1, h2, h3, h4⟩ := rw_of (β := To) (k := 9) (by omega) (f := toc) (p := fun x => x.sm) (R := reachBytes) (W := W) (A := A0) (n := n0) (c := c0) (h0.imp id fun ⟨a, e, k1', k2', k3', k4'⟩ => ⟨a, e, k1', k2', k3', fun i hi => by
    obtain ⟨cs, fuel', y, q1, q2, q3, q4⟩ := k4' i hi
    obtain ⟨v0, v1, v2, v3, v4, v5, v6, v7, v8, rfl⟩ := nineV q1
    obtain ⟨n0, z0, r0, _⟩ := open_part hu q3 q4 0 f0 rfl
    obtain ⟨n1, z1, r1, y1⟩ := open_part hu q3 q4 1 f1 rfl
    obtain ⟨n2, z2, r2, y2⟩ := open_part hu q3 q4 2 f2 rfl
    obtain ⟨n3, z3, r3, _⟩ := open_part hu q3 q4 3 f3 rfl
    obtain ⟨n4, z4, r4, y4⟩ := open_part hu q3 q4 4 f4 rfl
    obtain ⟨n5, z5, r5, y5⟩ := open_part hu q3 q4 5 f5 rfl
    rw [o0, k0, t0] at r0
    rw [o1, k1, t1] at r1
    rw [t1] at y1
    rw [o2, k2, t2] at r2
    rw [t2] at y2
    rw [o3, k3, t3] at r3
    rw [o4, k4, t4] at r4
    rw [t4] at y4
    rw [o5, k5, t5] at r5
    rw [t5] at y5
    simp only [List.drop_zero, List.drop_succ_cons, List.take_succ_cons, List.take_zero] at r0 r1 r2 r3 r4 r5
    obtain ⟨_, _, i0, _⟩ := open_field hu' hone r1 y1 0 g0 rfl v1 rfl
    obtain ⟨_, _, i1, j1⟩ := open_field hu' hone r1 y1 1 g1 rfl v2 rfl
    obtain ⟨_, _, i2, j2⟩ := open_field hu' hone r1 y1 2 g2 rfl v3 rfl
    obtain ⟨_, _, i3, _⟩ := open_field hu' hone r1 y1 3 g3 rfl v4 rfl
    rw [s0] at i0
    rw [s1] at i1 j1
    rw [s2] at i2 j2
    rw [s3] at i3
    obtain ⟨x0, rfl, _⟩ := open_num Tryd.underlying3 r0
    obtain ⟨x1, rfl, _⟩ := open_num Tryd.underlying3 i0
    obtain ⟨x2, rfl, w2⟩ := open_str Tryd.underlying9 i1 j1
    obtain ⟨x3, rfl, w3⟩ := open_str Tryd.underlying9 i2 j2
    obtain ⟨x4, rfl, _⟩ := open_num Tryd.underlying2 i3
    obtain ⟨x5, rfl, w5⟩ := open_str Tryd.underlying9 r2 y2
    obtain ⟨x6, rfl, _⟩ := open_num Tryd.underlying3 r3
    obtain ⟨x7, rfl, w7⟩ := open_str Tryd.underlying9 r4 y4
    obtain ⟨x8, rfl, w8⟩ := open_str Tryd.underlying9 r5 y5
    refine ⟨⟨x0, ⟨x1, x2, x3, x4⟩, x5, x6, x7, x8⟩, ⟨w2, w3, w5, w7, w8⟩, fun j hj => ?_⟩
    have := q2 j hj
    rw [this]
    match j, hj with
    | 0, _ => rfl
    | 1, _ => rfl
    | 2, _ => rfl
    | 3, _ => rfl
    | 4, _ => rfl
    | 5, _ => rfl
    | 6, _ => rfl
    | 7, _ => rfl
    | 8, _ => rfl⟩) (fun _ => rfl)
  have h5 : reachBytes < 140737488355328 := reachBytes_lt
  exact ⟨A0, c0, l, by rw [hl], h1, h2, by omega, h4⟩
theorem open_pass {H : Type} {enc : TypeId × Value → H} {W : World} {r : Reach} {b0 base : Nat} {spare : Nat → Bool} {held : Bool} {v : Value} {d : DataW H} {p : List MemPlace} {ts : List TypeId} {ds : List (DataW H)} {j : Nat} (hv : Value.okWide Tryd.prog W r b0 31 v) (h : DataW.Trod enc Tryd.prog W base spare held 31 v d p)
    (hz : (DataW.weightsEach Tryd.prog ts ds).all (· ≤ reachBytes) = true) (hj : ts[j]? = some 31) (hd : ds[j]? = some d) :
    ∃ x : Ps, v = .agg #[.int .i64 x.vis, .string x.nm, .string x.ten, .int .i64 x.ep] ∧ x.nm.size ≤ 140737488355328 ∧ x.ten.size ≤ 140737488355328 := by
  obtain ⟨f0, f1, f2, f3, hu, t0, t1, t2, t3, hone⟩ := pass_fields
  obtain ⟨cs, rfl, hsz⟩ := okWide_struct hu hv
  rw [pass_cells] at hsz
  have at_ : ∀ i, i < 4 → ∃ c, cs[i]? = some c := fun i hi => ⟨cs[i]'(by omega), Array.getElem?_eq_getElem (by omega)⟩
  obtain ⟨c0, e0⟩ := at_ 0 (by omega)
  obtain ⟨c1, e1⟩ := at_ 1 (by omega)
  obtain ⟨c2, e2⟩ := at_ 2 (by omega)
  obtain ⟨c3, e3⟩ := at_ 3 (by omega)
  obtain ⟨n0, y0, p0, dp0, hp0, r0⟩ := one_field hu hone h 0 f0 rfl c0 e0
  obtain ⟨n1, y1, p1, dp1, hp1, r1⟩ := one_field hu hone h 1 f1 rfl c1 e1
  obtain ⟨n2, y2, p2, dp2, hp2, r2⟩ := one_field hu hone h 2 f2 rfl c2 e2
  obtain ⟨n3, y3, p3, dp3, hp3, r3⟩ := one_field hu hone h 3 f3 rfl c3 e3
  rw [t0] at r0
  rw [t1] at r1
  rw [t2] at r2
  rw [t3] at r3
  obtain ⟨k, q0, _, _⟩ := DataW.trod_int Tryd.underlying3 r0
  obtain ⟨a, q1, ya, _⟩ := DataW.trod_string Tryd.underlying9 r1
  obtain ⟨b, q2, yb, _⟩ := DataW.trod_string Tryd.underlying9 r2
  obtain ⟨n, q3, _, _⟩ := DataW.trod_int Tryd.underlying2 r3
  rw [ya] at hp1
  rw [yb] at hp2
  have hwt : ∀ (i : Nat) (s : ByteArray) (pp : List (DataW H)), d = .agg pp → (i = 1 ∨ i = 2) → pp[i]? = some (.lit (.string s.data.toList)) → s.size ≤ 140737488355328 := by
    intro i s pp hpp hi hps
    have hmem : s.data.toList.length ∈ DataW.weights Tryd.prog 31 d := by
      rw [hpp]
      have hu' := hu
      simp only [DataW.weights, hu']
      refine DataW.weights_mem_each (j := i) (t := 9) (d := .lit (.string s.data.toList)) ?_ hps _ (by simp [DataW.weights])
      rcases hi with rfl | rfl
      · simp [t1]
      · simp [t2]
    have h1 := List.all_eq_true.1 hz _ (DataW.weights_mem_each hj hd _ hmem)
    have h2 : reachBytes < 140737488355328 := reachBytes_lt
    have h3 : s.data.toList.length ≤ reachBytes := by simpa using h1
    have h4 : s.data.toList.length = s.size := rfl
    omega
  have ha := hwt 1 a p1 dp1 (.inl rfl) hp1
  have hb := hwt 2 b p2 dp2 (.inr rfl) hp2
  injection q0 with q0
  injection q1 with q1
  injection q2 with q2
  injection q3 with q3
  subst q0; subst q1; subst q2; subst q3
  refine ⟨⟨k, a, b, n⟩, ?_, ha, hb⟩
  congr 1
  apply Array.ext_getElem?
  intro i
  match i with
  | 0 => exact e0
  | 1 => exact e1
  | 2 => exact e2
  | 3 => exact e3
  | i + 4 =>
    rw [Array.getElem?_eq_none (by omega)]
    rfl
end Go.Proofs.YtinbegnojfpeiaaDoor
