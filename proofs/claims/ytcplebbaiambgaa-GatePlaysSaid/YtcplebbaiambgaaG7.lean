/- CgIn, GtL: texts of this seat, one behind the other. -/
import Derived.Test.YtcplebbaiambgaaG2
import Derived.ProofKit
import Derived.OpenShut
import Derived.ShutString
import Derived.Deep.Fields
import Derived.Deep.SlicePairs
import Derived.Deep.Strs
import Derived.SizedLaws
import Derived.Test.YtcplebbaiambgaaGt4
/- A configuration that came in, by value: from the row's reading to 'RC', with bounds out of the row's reach. -/
namespace Go.Proofs.Ytcplebbaiambgaa
set_option linter.unusedVariables false
set_option maxRecDepth 100000
set_option linter.unusedSimpArgs false
open Go.ChangeShapes Go.WideShapes Go.ChangeAt Go.RowKit Go.Deep

section
variable {H : Type} {enc : TypeId × Value → H} {P : Program} {W : World} {t e : TypeId}

/-- Every weight of it is within the reach. -/
def Wt (P : Program) (t : TypeId) (d : DataW H) : Prop := ∀ n ∈ d.weights P t, n ≤ reachBytes
theorem wt_all : ∀ (l : List (DataW H)), (∀ n ∈ DataW.weightsAll P e l, n ≤ reachBytes) → ∀ x ∈ l, Wt P e x
  | [], _, _, h => by cases h
  | d :: r, h, x, hx => by
    simp only [DataW.weightsAll, List.mem_append] at h
    rcases List.mem_cons.1 hx with hx | hx
    · subst hx; exact fun n hn => h n (.inl hn)
    · exact wt_all r (fun n hn => h n (.inr hn)) x hx
theorem Wt.slice {el sp : List (DataW H)} (hu : P.underlying t = some (.slice e)) (h : Wt P t (.slice el sp)) : el.length * P.bytesOf e ≤ reachBytes ∧ ∀ x ∈ el, Wt P e x := by
  unfold Wt at h
  simp only [DataW.weights, hu] at h
  refine ⟨?_, wt_all el fun n hn => h n (by simp [hn])⟩
  have := h ((el.length + sp.length) * P.bytesOf e) (by simp)
  exact Nat.le_trans (Nat.mul_le_mul_right _ (Nat.le_add_right _ _)) this
theorem Wt.part {fs : Array Field} {parts : List (DataW H)} (hu : P.underlying t = some (.struct fs)) (h : Wt P t (.agg parts)) {j : Nat} {f : Field} {d : DataW H} (hf : fs[j]? = some f) (hd : parts[j]? = some d) : Wt P f.type d := fun n hn => by
  unfold Wt at h
  simp only [DataW.weights, hu] at h
  exact h n (DataW.weights_mem_each (j := j) (t := f.type) (d := d) (by simp [hf]) hd n hn)

theorem open_each {fs : Array Field} {A : Option Addr} {n c k : Nat} {y : DataW H × List MemPlace} {fuel : Nat} (ht : P.underlying t = some (.slice e)) (he : P.underlying e = some (.struct fs)) (ce : P.cellsOf e = k) (h1 : 1 ≤ P.bytesOf e)
    (h : DataW.trod enc P W 0 (fun _ => true) true fuel t [.slice A n c] = some y) (hw : Wt P t y.1) :
    (A = none ∧ n = 0 ∧ c = 0) ∨ ∃ a, A = some a ∧ n ≤ c ∧ c ≤ maxLen ∧ n ≤ reachBytes ∧ ∀ i, i < n → ∃ cs fuel' z, cs.length = k ∧ (∀ j, (hj : j < cs.length) → W.cell? (a.add (i * k + j)) = some cs[j]) ∧ DataW.trod enc P W 0 (fun _ => true) true fuel' e cs = some z ∧ Wt P e z.1 := by
  rcases open_slice ht h with ⟨hcs, _⟩ | ⟨a, len, cap, m, k', D, Pl, hcs, _, hl, hm, hmm, hy, hx⟩
  · left
    simpa using hcs
  · right
    simp only [List.cons.injEq, Value.slice.injEq, and_true] at hcs
    obtain ⟨rfl, rfl, rfl⟩ := hcs
    simp only [if_true] at hmm
    subst hmm
    subst hy
    obtain ⟨w1, w2⟩ := Wt.slice ht hw
    rw [List.length_map, List.length_range] at w1
    refine ⟨a, rfl, hl, hm, Nat.le_trans (Nat.le_mul_of_pos_right _ h1) w1, fun i hi => ?_⟩
    obtain ⟨cs', g1, g2⟩ := hx i (by omega)
    rw [ce] at g1
    obtain ⟨_, hlen, hcell⟩ := World.cells?_some g1
    refine ⟨cs', k', _, hlen, fun j hj => ?_, g2, w2 _ (List.mem_map.2 ⟨i, List.mem_range.2 hi, rfl⟩)⟩
    have := hcell j (by omega)
    rw [Go.Deep.add_add] at this
    rw [this]
    exact List.getElem?_eq_getElem hj
theorem open_field {fs : Array Field} {cs : List Value} {y : DataW H × List MemPlace} {fuel : Nat} (he : P.underlying e = some (.struct fs)) (hone : oneCellFields P fs = true) (h : DataW.trod enc P W 0 (fun _ => true) true fuel e cs = some y) (hw : Wt P e y.1)
    (i : Nat) (f : Field) (hf : fs[i]? = some f) (v : Value) (hv : cs[i]? = some v) : ∃ n z, DataW.trod enc P W 0 (fun _ => true) true n f.type [v] = some z ∧ Wt P f.type z.1 := by
  obtain ⟨xs, n, _, hx, _, hlen, hg⟩ := DataW.trod_struct he h
  subst hx
  obtain ⟨ho, hk⟩ := hone_of hone i f hf
  have hi : i < fs.size := (Array.getElem?_eq_some_iff.1 hf).1
  have h1 := hg i f hf
  have hil : i < cs.length := (List.getElem?_eq_some_iff.1 hv).1
  have e1 : (cs.drop i).take 1 = [v] := by
    rw [List.drop_eq_getElem_cons hil]
    have : cs[i] = v := (List.getElem?_eq_some_iff.1 hv).2
    rw [this]; rfl
  rw [ho, hk, e1] at h1
  refine ⟨n, xs[i]'(by omega), h1.trans (List.getElem?_eq_getElem (by omega)), Wt.part he hw hf ?_⟩
  rw [List.getElem?_map, List.getElem?_eq_getElem (by omega)]; rfl
theorem open_str {v : Value} {n : Nat} {z : DataW H × List MemPlace} (hu : P.underlying t = some .string) (h : DataW.trod enc P W 0 (fun _ => true) true n t [v] = some z) (hw : Wt P t z.1) : ∃ s : ByteArray, v = .string s ∧ s.size ≤ 140737488355328 := by
  obtain ⟨s, q, hz, _⟩ := DataW.trod_string hu h
  refine ⟨s, by simpa using q, ?_⟩
  rw [hz] at hw
  have h1 : s.data.toList.length ≤ reachBytes := hw _ (by simp [DataW.weights])
  have h2 : reachBytes < 140737488355328 := reachBytes_lt
  have h3 : s.data.toList.length = s.size := rfl
  omega
theorem open_num {v : Value} {n : Nat} {k : IntKind} {z : DataW H × List MemPlace} (hu : P.underlying t = some (.int k)) (h : DataW.trod enc P W 0 (fun _ => true) true n t [v] = some z) : ∃ a : Int, v = .int k a ∧ (Lit.int k a).wf = true := by
  obtain ⟨a, q, _, w⟩ := DataW.trod_int hu h
  exact ⟨a, by simpa using q, w⟩
theorem open_slice_of {v : Value} {n : Nat} {z : DataW H × List MemPlace} (hu : P.underlying t = some (.slice e)) (h : DataW.trod enc P W 0 (fun _ => true) true n t [v] = some z) : ∃ A m c, v = .slice A m c := by
  rcases open_slice hu h with ⟨hcs, _⟩ | ⟨a, len, cap, m, k', D, Pl, hcs, _⟩
  · exact ⟨none, 0, 0, by simpa using hcs⟩
  · exact ⟨some a, len, cap, by simpa using hcs⟩
end

theorem lit_u32 {a : Int} (h : (Lit.int .u32 a).wf = true) : 0 ≤ a ∧ a < 4294967296 := by
  have hmin : IntKind.u32.min = 0 := by decide
  have hmax : IntKind.u32.max = 4294967295 := by decide
  simp only [Lit.wf, Bool.and_eq_true, decide_eq_true_eq, hmin, hmax] at h
  omega
/-- The rows of a slice, out of what each place reads as. -/
theorem rw_of {β : Type} [Inhabited β] {W : World} {k : Nat} (hk : 0 < k) {f : β → Array Value} {A : Option Addr} {n c : Nat} {p : β → Prop} {R : Nat}
    (h : (A = none ∧ n = 0 ∧ c = 0) ∨ ∃ a, A = some a ∧ n ≤ c ∧ c ≤ maxLen ∧ n ≤ R ∧ ∀ i, i < n → ∃ x : β, p x ∧ ∀ j, j < k → W.cell? (a.add (i * k + j)) = (f x)[j]?)
    (hf : ∀ x, (f x).size = k) : ∃ l : List β, l.length = n ∧ Rw k f W A l ∧ Fit A l.length c ∧ n ≤ R ∧ ∀ x ∈ l, p x := by
  rcases h with ⟨rfl, rfl, rfl⟩ | ⟨a, rfl, hl, hm, hr, hx⟩
  · exact ⟨[], rfl, .inl rfl, ⟨by simp, by omega, fun _ => ⟨rfl, rfl⟩⟩, Nat.zero_le _, fun x hx => by cases hx⟩
  · obtain ⟨F, hF⟩ := Go.Deep.choose_lt hx
    unfold maxLen at hm
    refine ⟨(List.range n).map F, by simp, ?_, ⟨by simpa using hl, by omega, fun h => by cases h⟩, hr, fun x hx => ?_⟩
    · by_cases hn : n = 0
      · left; rw [hn]; rfl
      · right
        obtain ⟨b, o, spot⟩ := a
        obtain ⟨_, h0⟩ := hF 0 (by omega)
        have h00 := h0 0 hk
        rw [Array.getElem?_eq_getElem (by rw [hf]; exact hk)] at h00
        have hspot : spot = none := by simpa [Addr.add] using World.cell?_spot h00
        subst hspot
        refine ⟨b, o, rfl, ?_, fun i hi j hj => ?_⟩
        · have := World.block_lt_of_cell? W _ h00
          rw [add_plain] at this
          exact this
        · have hi' : i < n := by simpa using hi
          have e : ((List.range n).map F)[i] = F i := by simp
          rw [e]
          have := (hF i hi').2 j hj
          rw [add_plain] at this
          rw [Nat.add_assoc]
          exact this
    · obtain ⟨i, hi, rfl⟩ := List.mem_map.1 hx
      exact (hF i (List.mem_range.1 hi)).1

instance : Inhabited Nt := ⟨⟨0, 0⟩⟩
instance : Inhabited Tk := ⟨⟨ByteArray.empty, ByteArray.empty, 0⟩⟩
instance : Inhabited Tv := ⟨⟨⟨ByteArray.empty, 0, 0, [], []⟩, none, 0, none, 0⟩⟩

theorem net_fields : ∃ f0 f1, Try.prog.underlying 51 = some (.struct #[f0, f1]) ∧ f0.type = 33 ∧ f1.type = 3 ∧ oneCellFields Try.prog #[f0, f1] = true := ⟨_, _, Try.underlying51, rfl, rfl, by kernel_rfl⟩
theorem tok_fields : ∃ f0 f1 f2, Try.prog.underlying 56 = some (.struct #[f0, f1, f2]) ∧ f0.type = 9 ∧ f1.type = 9 ∧ f2.type = 2 ∧ oneCellFields Try.prog #[f0, f1, f2] = true := ⟨_, _, _, Try.underlying56, rfl, rfl, rfl, by kernel_rfl⟩
theorem ten_fields : ∃ f0 f1 f2 f3 f4, Try.prog.underlying 45 = some (.struct #[f0, f1, f2, f3, f4]) ∧ f0.type = 9 ∧ f1.type = 3 ∧ f2.type = 3 ∧ f3.type = 42 ∧ f4.type = 43 ∧ oneCellFields Try.prog #[f0, f1, f2, f3, f4] = true := ⟨_, _, _, _, _, Try.underlying45, rfl, rfl, rfl, rfl, rfl, by kernel_rfl⟩
theorem cfg_fields : ∃ f0 f1 f2 f3 f4, Try.prog.underlying 24 = some (.struct #[f0, f1, f2, f3, f4]) ∧ f0.type = 2 ∧ f1.type = 2 ∧ f2.type = 2 ∧ f3.type = 2 ∧ f4.type = 22 ∧ oneCellFields Try.prog #[f0, f1, f2, f3, f4] = true := ⟨_, _, _, _, _, Try.underlying24, rfl, rfl, rfl, rfl, rfl, by kernel_rfl⟩

theorem five {cs : List Value} (h : cs.length = 5) : ∃ a b c d e, cs = [a, b, c, d, e] := by
  match cs, h with
  | [a, b, c, d, e], _ => exact ⟨a, b, c, d, e, rfl⟩

section
variable {H : Type} {enc : TypeId × Value → H} {W : World}
theorem open_nets {v : Value} {n : Nat} {z : DataW H × List MemPlace} (h : DataW.trod enc Try.prog W 0 (fun _ => true) true n 42 [v] = some z) (hw : Wt Try.prog 42 z.1) :
    ∃ A c, ∃ l : List Nt, v = .slice A l.length c ∧ RN W A l ∧ Fit A l.length c ∧ l.length ≤ 140737488355328 ∧ ∀ x ∈ l, x.addr < 4294967296 := by
  obtain ⟨f0, f1, hu, t0, t1, hone⟩ := net_fields
  obtain ⟨A, m, c, rfl⟩ := open_slice_of Try.underlying42 h
  have h0 := open_each Try.underlying42 hu (k := 2) (by kernel_rfl) (of_decide_eq_true (by kernel_rfl)) h hw
  obtain ⟨l, hl, h1, h2, h3, h4⟩ := rw_of (β := Nt) (k := 2) (by omega) (f := ncs) (p := fun x => x.addr < 4294967296) (R := reachBytes) (W := W) (A := A) (n := m) (c := c) (h0.imp id fun ⟨a, e, k1, k2, k3, k4⟩ => ⟨a, e, k1, k2, k3, fun i hi => by
    obtain ⟨cs, fuel', y, q1, q2, q3, q4⟩ := k4 i hi
    match cs, q1 with
    | [v0, v1], _ =>
      obtain ⟨n0, z0, r0, _⟩ := open_field hu hone q3 q4 0 f0 rfl v0 rfl
      obtain ⟨n1, z1, r1, _⟩ := open_field hu hone q3 q4 1 f1 rfl v1 rfl
      rw [t0] at r0
      rw [t1] at r1
      obtain ⟨x0, rfl, w0⟩ := open_num Try.underlying33 r0
      obtain ⟨x1, rfl, w1⟩ := open_num Try.underlying3 r1
      have hx : 0 ≤ x0 ∧ x0 < 4294967296 := by
        have h1 := lit_u32 w0
        exact h1
      refine ⟨⟨x0.toNat, x1⟩, by show x0.toNat < _; omega, fun j hj => ?_⟩
      have e0 : ((x0.toNat : Nat) : Int) = x0 := by omega
      have := q2 j hj
      rw [this]
      match j, hj with
      | 0, _ => simp [e0]
      | 1, _ => rfl⟩) (fun _ => rfl)
  have h5 : reachBytes < 140737488355328 := reachBytes_lt
  exact ⟨A, c, l, by rw [hl], h1, h2, by omega, h4⟩
theorem open_toks {v : Value} {n : Nat} {z : DataW H × List MemPlace} (h : DataW.trod enc Try.prog W 0 (fun _ => true) true n 43 [v] = some z) (hw : Wt Try.prog 43 z.1) :
    ∃ A c, ∃ l : List Tk, v = .slice A l.length c ∧ RK W A l ∧ Fit A l.length c ∧ l.length ≤ 140737488355328 ∧ ∀ x ∈ l, x.name.size ≤ 140737488355328 ∧ x.sec.size ≤ 140737488355328 := by
  obtain ⟨f0, f1, f2, hu, t0, t1, t2, hone⟩ := tok_fields
  obtain ⟨A, m, c, rfl⟩ := open_slice_of Try.underlying43 h
  have h0 := open_each Try.underlying43 hu (k := 3) (by kernel_rfl) (of_decide_eq_true (by kernel_rfl)) h hw
  obtain ⟨l, hl, h1, h2, h3, h4⟩ := rw_of (β := Tk) (k := 3) (by omega) (f := kcs) (p := fun x => x.name.size ≤ 140737488355328 ∧ x.sec.size ≤ 140737488355328) (R := reachBytes) (W := W) (A := A) (n := m) (c := c) (h0.imp id fun ⟨a, e, k1, k2, k3, k4⟩ => ⟨a, e, k1, k2, k3, fun i hi => by
    obtain ⟨cs, fuel', y, q1, q2, q3, q4⟩ := k4 i hi
    match cs, q1 with
    | [v0, v1, v2], _ =>
      obtain ⟨n0, z0, r0, y0⟩ := open_field hu hone q3 q4 0 f0 rfl v0 rfl
      obtain ⟨n1, z1, r1, y1⟩ := open_field hu hone q3 q4 1 f1 rfl v1 rfl
      obtain ⟨n2, z2, r2, _⟩ := open_field hu hone q3 q4 2 f2 rfl v2 rfl
      rw [t0] at r0 y0
      rw [t1] at r1 y1
      rw [t2] at r2
      obtain ⟨x0, rfl, w0⟩ := open_str Try.underlying9 r0 y0
      obtain ⟨x1, rfl, w1⟩ := open_str Try.underlying9 r1 y1
      obtain ⟨x2, rfl, _⟩ := open_num Try.underlying2 r2
      refine ⟨⟨x0, x1, x2⟩, ⟨w0, w1⟩, fun j hj => ?_⟩
      have := q2 j hj
      rw [this]
      match j, hj with
      | 0, _ => rfl
      | 1, _ => rfl
      | 2, _ => rfl⟩) (fun _ => rfl)
  have h5 : reachBytes < 140737488355328 := reachBytes_lt
  exact ⟨A, c, l, by rw [hl], h1, h2, by omega, h4⟩
/-- A tenant that came in. -/
structure InTv (W : World) (x : Tv) : Prop where
  r : RT1 W x
  nn : x.t.nets.length ≤ 140737488355328
  nk : x.t.toks.length ≤ 140737488355328
theorem open_tens {v : Value} {n : Nat} {z : DataW H × List MemPlace} (h : DataW.trod enc Try.prog W 0 (fun _ => true) true n 22 [v] = some z) (hw : Wt Try.prog 22 z.1) :
    ∃ A c, ∃ l : List Tv, v = .slice A l.length c ∧ Rw 5 tcs W A l ∧ Fit A l.length c ∧ l.length ≤ 140737488355328 ∧ ∀ x ∈ l, InTv W x := by
  obtain ⟨f0, f1, f2, f3, f4, hu, t0, t1, t2, t3, t4, hone⟩ := ten_fields
  obtain ⟨A, m, c, rfl⟩ := open_slice_of Try.underlying22 h
  have h0 := open_each Try.underlying22 hu (k := 5) (by kernel_rfl) (of_decide_eq_true (by kernel_rfl)) h hw
  obtain ⟨l, hl, h1, h2, h3, h4⟩ := rw_of (β := Tv) (k := 5) (by omega) (f := tcs) (p := fun x => InTv W x) (R := reachBytes) (W := W) (A := A) (n := m) (c := c) (h0.imp id fun ⟨a, e, k1, k2, k3, k4⟩ => ⟨a, e, k1, k2, k3, fun i hi => by
    obtain ⟨cs, fuel', y, q1, q2, q3, q4⟩ := k4 i hi
    obtain ⟨v0, v1, v2, v3, v4, rfl⟩ := five q1
    obtain ⟨n0, z0, r0, y0⟩ := open_field hu hone q3 q4 0 f0 rfl v0 rfl
    obtain ⟨n1, z1, r1, _⟩ := open_field hu hone q3 q4 1 f1 rfl v1 rfl
    obtain ⟨n2, z2, r2, _⟩ := open_field hu hone q3 q4 2 f2 rfl v2 rfl
    obtain ⟨n3, z3, r3, y3⟩ := open_field hu hone q3 q4 3 f3 rfl v3 rfl
    obtain ⟨n4, z4, r4, y4⟩ := open_field hu hone q3 q4 4 f4 rfl v4 rfl
    rw [t0] at r0 y0
    rw [t1] at r1
    rw [t2] at r2
    rw [t3] at r3 y3
    rw [t4] at r4 y4
    obtain ⟨x0, rfl, w0⟩ := open_str Try.underlying9 r0 y0
    obtain ⟨x1, rfl, _⟩ := open_num Try.underlying3 r1
    obtain ⟨x2, rfl, _⟩ := open_num Try.underlying3 r2
    obtain ⟨An, cn, ln, rfl, b1, b2, b3, b4⟩ := open_nets r3 y3
    obtain ⟨Ak, ck, lk, rfl, d1, d2, d3, d4⟩ := open_toks r4 y4
    refine ⟨⟨⟨x0, x1, x2, ln, lk⟩, An, cn, Ak, ck⟩, ⟨⟨b1, d1, b2, d2, b4, w0, d4⟩, b3, d3⟩, fun j hj => ?_⟩
    have := q2 j hj
    rw [this]
    match j, hj with
    | 0, _ => rfl
    | 1, _ => rfl
    | 2, _ => rfl
    | 3, _ => rfl
    | 4, _ => rfl⟩) (fun _ => rfl)
  have h5 : reachBytes < 140737488355328 := reachBytes_lt
  exact ⟨A, c, l, by rw [hl], h1, h2, by omega, h4⟩
end
/-- A configuration that came in. -/
structure InCf (W : World) (x : Cv) : Prop where
  rc : RC W x
  n : x.ts.length ≤ 140737488355328
  each : ∀ y ∈ x.ts, InTv W y

set_option maxRecDepth 100000 in
theorem open_cfg {H : Type} {enc : TypeId × Value → H} {W : World} {r : Reach} {b0 : Nat} {v : Value} {d : DataW H} {p : List MemPlace} {ts : List TypeId} {ds : List (DataW H)} {j : Nat} (hv : Value.okWide Try.prog W r b0 24 v) (h : DataW.Trod enc Try.prog W 0 (fun _ => true) true 24 v d p)
    (hz : (DataW.weightsEach Try.prog ts ds).all (· ≤ reachBytes) = true) (hj : ts[j]? = some 24) (hd : ds[j]? = some d) : ∃ x : Cv, v = .agg (ccs x) ∧ InCf W x := by
  obtain ⟨f0, f1, f2, f3, f4, hu, t0, t1, t2, t3, t4, hone⟩ := cfg_fields
  obtain ⟨cs, rfl, hsz⟩ := okWide_struct hu hv
  have hsz5 : cs.toList.length = 5 := by rw [Array.length_toList, hsz]; exact (show Try.prog.cellsOf 24 = 5 by kernel_rfl)
  obtain ⟨v0, v1, v2, v3, v4, hcs⟩ := five hsz5
  have hcs' : cs = #[v0, v1, v2, v3, v4] := by rw [← hcs]
  subst hcs'
  obtain ⟨fuel, hfu⟩ := h
  have hw : Wt Try.prog 24 d := fun n hn => by
    have := List.all_eq_true.1 hz _ (DataW.weights_mem_each hj hd n hn)
    simpa using this
  have hfu' : DataW.trod enc Try.prog W 0 (fun _ => true) true fuel 24 [v0, v1, v2, v3, v4] = some (d, p) := hfu
  obtain ⟨n0, z0, r0, _⟩ := open_field hu hone hfu' hw 0 f0 rfl v0 rfl
  obtain ⟨n1, z1, r1, _⟩ := open_field hu hone hfu' hw 1 f1 rfl v1 rfl
  obtain ⟨n2, z2, r2, _⟩ := open_field hu hone hfu' hw 2 f2 rfl v2 rfl
  obtain ⟨n3, z3, r3, _⟩ := open_field hu hone hfu' hw 3 f3 rfl v3 rfl
  obtain ⟨n4, z4, r4, y4⟩ := open_field hu hone hfu' hw 4 f4 rfl v4 rfl
  rw [t0] at r0
  rw [t1] at r1
  rw [t2] at r2
  rw [t3] at r3
  rw [t4] at r4 y4
  obtain ⟨x0, rfl, _⟩ := open_num Try.underlying2 r0
  obtain ⟨x1, rfl, _⟩ := open_num Try.underlying2 r1
  obtain ⟨x2, rfl, _⟩ := open_num Try.underlying2 r2
  obtain ⟨x3, rfl, _⟩ := open_num Try.underlying2 r3
  obtain ⟨A, c, l, rfl, b1, b2, b3, b4⟩ := open_tens r4 y4
  exact ⟨⟨x0, x1, x2, x3, l, A, c⟩, rfl, ⟨⟨⟨b1, fun y hy => (b4 y hy).r⟩, b2⟩, b3, b4⟩⟩
end Go.Proofs.Ytcplebbaiambgaa

/- What gate's laws share: gates that are kept together with the blocks around them. -/
namespace Go.Proofs.Ytcplebbaiambgaa
set_option linter.unusedVariables false
set_option maxRecDepth 100000
set_option linter.unusedSimpArgs false
open Go.RowKit

/-- A gate: where it lies, what each has. -/
structure Ga where
  g : Nat
  mb : Nat
  lo : Nat
  hi : Nat
  gs : List GtL
  U : Us
abbrev gaz (u : World) (G : Ga) : Prop := Gz u G.g G.mb G.lo G.hi G.gs G.U
/-- Gates of the tenants tn, the blocks of L, and what was there when the law began. -/
structure Lg (w : World) (tn : List Tn) (Gs : List Ga) (L : List (Nat × TypeId × Array Value)) (u : World) : Prop where
  z : ∀ G ∈ Gs, gaz u G ∧ G.gs.map GtL.t = tn ∧ w.heap.size ≤ G.lo ∧ G.hi ≤ u.heap.size
  ap : Gs.Pairwise (fun G H => G.hi ≤ H.lo ∨ H.hi ≤ G.lo)
  kb : ∀ b ∈ L, Bk u b.1 b.2.1 b.2.2 ∧ b.2.1 ≠ 67
  l : Below w.heap.size w u
section
variable {w u u' : World} {tn : List Tn} {Gs : List Ga} {G H : Ga} {L L' : List (Nat × TypeId × Array Value)}
theorem Lg.on (h : Lg w tn Gs L u) (hb : Below u.heap.size u u') : Lg w tn Gs L u' :=
  ⟨fun G hG => ⟨(h.z G hG).1.on hb, (h.z G hG).2.1, (h.z G hG).2.2.1, Nat.le_trans (h.z G hG).2.2.2 hb.size⟩, h.ap, fun b hL => ⟨(h.kb b hL).1.below hb (h.kb b hL).1.lt, (h.kb b hL).2⟩, h.l.trans (hb.mono h.l.size)⟩
/-- The first one's counts turned. -/
theorem Lg.turn {U : Us} (h : Lg w tn (G :: Gs) L u) (hz : Gz u' G.g G.mb G.lo G.hi G.gs U) (K : Kg G.lo G.hi u u') : Lg w tn (⟨G.g, G.mb, G.lo, G.hi, G.gs, U⟩ :: Gs) L u' := by
  obtain ⟨h1, h2, h3, h4⟩ := h.z G (List.mem_cons_self ..)
  obtain ⟨p1, p2⟩ := List.pairwise_cons.1 h.ap
  have hsz : u.heap.size ≤ u'.heap.size := by obtain ⟨_, _, hk⟩ := K; exact hk.size
  refine ⟨fun F hF => ?_, List.pairwise_cons.2 ⟨fun F hF => p1 F hF, p2⟩, fun b hL => ⟨(h.kb b hL).1.kg K (h.kb b hL).2, (h.kb b hL).2⟩, h.l.trans (K.below h.l.size h3)⟩
  rcases List.mem_cons.1 hF with rfl | hF
  · exact ⟨hz, h2, h3, Nat.le_trans h4 hsz⟩
  · obtain ⟨f1, f2, f3, f4⟩ := h.z F (List.mem_cons_of_mem _ hF)
    exact ⟨f1.other K (by have := p1 F hF; omega), f2, f3, Nat.le_trans f4 hsz⟩
theorem Lg.less (h : Lg w tn Gs L u) (hL : ∀ b ∈ L', b ∈ L) : Lg w tn Gs L' u := ⟨h.z, h.ap, fun b hb => h.kb b (hL b hb), h.l⟩
theorem Lg.drop (h : Lg w tn (G :: Gs) L u) : Lg w tn Gs L u := ⟨fun F hF => h.z F (List.mem_cons_of_mem _ hF), (List.pairwise_cons.1 h.ap).2, h.kb, h.l⟩
theorem Lg.swap (h : Lg w tn (G :: H :: Gs) L u) : Lg w tn (H :: G :: Gs) L u := by
  obtain ⟨p1, p2⟩ := List.pairwise_cons.1 h.ap
  obtain ⟨p3, p4⟩ := List.pairwise_cons.1 p2
  refine ⟨fun F hF => h.z F ?_, List.pairwise_cons.2 ⟨fun F hF => ?_, List.pairwise_cons.2 ⟨fun F hF => p1 F (List.mem_cons_of_mem _ hF), p4⟩⟩, h.kb, h.l⟩
  · simp only [List.mem_cons] at hF ⊢
    rcases hF with h1 | h1 | h1
    · exact .inr (.inl h1)
    · exact .inl h1
    · exact .inr (.inr h1)
  · rcases List.mem_cons.1 hF with rfl | hF
    · exact (p1 H (List.mem_cons_self ..)).symm
    · exact p3 F hF
theorem Lg.new (h : Lg w tn Gs L u) (t : TypeId) (cs : Array Value) (ht : t ≠ 67) : Lg w tn Gs ((u.heap.size, t, cs) :: L) (u.alloc (.cells cs t)) := by
  have h2 := h.on ((Below.refl u.heap.size u).alloc (Nat.le_refl _) (.cells cs t))
  refine ⟨h2.z, h2.ap, fun b hL => ?_, h2.l⟩
  rcases List.mem_cons.1 hL with rfl | hL
  · exact ⟨Bk.new u t cs, ht⟩
  · exact h2.kb b hL
theorem Lg.bk (h : Lg w tn Gs L u) {b : Nat} {t : TypeId} {cs : Array Value} (hL : (b, t, cs) ∈ L) : Bk u b t cs := (h.kb _ hL).1
theorem Lg.head {b : Nat} {t : TypeId} {cs : Array Value} (h : Lg w tn Gs ((b, t, cs) :: L) u) : Bk u b t cs := (h.kb _ (List.mem_cons_self ..)).1
theorem Lg.lim (h : Lg w tn (G :: Gs) L u) : LimU tn G.U := by
  obtain ⟨h1, h2, _⟩ := h.z G (List.mem_cons_self ..)
  have := h1.lim
  rwa [h2] at this
theorem Lg.le8 (h : Lg w tn (G :: Gs) L u) (s : ByteArray) (k : Int) : G.U s k ≤ 8 := (h.z G (List.mem_cons_self ..)).1.le8 s k
end
section
variable {w u u' : World} {tn : List Tn} {Gs : List Ga} {H : Ga} {g mb lo hi : Nat} {gs : List GtL} {U : Us} {L : List (Nat × TypeId × Array Value)}
theorem lg_used (h : Lg w tn (⟨g, mb, lo, hi, gs, U⟩ :: Gs) L u) (s : ByteArray) (k : Int) (hs : s.size ≤ 140737488355328) : Calls Try.prog 20 #[.pointer (some ⟨g, 0, none⟩), .string s, .int .i64 k] u fun e u' => e = .returned (.int .i64 (U s k : Int)) ∧ Lg w tn (⟨g, mb, lo, hi, gs, U⟩ :: Gs) L u' :=
  (gused_ok u g mb lo hi gs U (h.z _ (List.mem_cons_self ..)).1 s k hs).mono fun e u' hh => ⟨hh.1, h.on hh.2⟩
theorem lg_admit (h : Lg w tn (⟨g, mb, lo, hi, gs, U⟩ :: Gs) L u) (s : ByteArray) (a : Nat) (hs : s.size ≤ 140737488355328) (ha : a < 4294967296) : Calls Try.prog 16 #[.pointer (some ⟨g, 0, none⟩), .string s, .int .u32 (a : Int)] u fun e u' => e = .returned (.int .i64 (adI (gtF tn s) a)) ∧ Lg w tn (⟨g, mb, lo, hi, gs, U⟩ :: Gs) L u' := by
  have h1 := (h.z _ (List.mem_cons_self ..)).2.1
  dsimp only at h1
  rw [← h1]
  exact (gadmit_ok u g mb lo hi gs U (h.z _ (List.mem_cons_self ..)).1 s a hs ha).mono fun e u' hh => ⟨hh.1, h1 ▸ h.on hh.2⟩
theorem lg_take (h : Lg w tn (⟨g, mb, lo, hi, gs, U⟩ :: Gs) L u) (s : ByteArray) (k : Int) (hs : s.size ≤ 140737488355328) : Calls Try.prog 18 #[.pointer (some ⟨g, 0, none⟩), .string s, .int .i64 k] u fun e u' => e = .returned (.int .i64 (tkI (gtF tn s) (U s k) k)) ∧ Lg w tn (⟨g, mb, lo, hi, gs, tkU (gtF tn s) U s k⟩ :: Gs) L u' := by
  have h1 := (h.z _ (List.mem_cons_self ..)).2.1
  dsimp only at h1
  exact (gtake_ok u g mb lo hi gs U (h.z _ (List.mem_cons_self ..)).1 s k hs).mono fun e u' hh => ⟨by rw [hh.e, h1], by have := h.turn hh.z hh.k; rwa [h1] at this⟩
theorem lg_give (h : Lg w tn (⟨g, mb, lo, hi, gs, U⟩ :: Gs) L u) (s : ByteArray) (k : Int) (hs : s.size ≤ 140737488355328) : Calls Try.prog 14 #[.pointer (some ⟨g, 0, none⟩), .string s, .int .i64 k] u fun e u' => e = .returned (.bool (gvB U s k)) ∧ Lg w tn (⟨g, mb, lo, hi, gs, gvU U s k⟩ :: Gs) L u' :=
  (ggive_ok u g mb lo hi gs U (h.z _ (List.mem_cons_self ..)).1 s k hs).mono fun e u' hh => ⟨hh.e, h.turn hh.z hh.k⟩
end
section
variable {w u u' : World} {tn : List Tn} {Gs : List Ga} {H : Ga} {g mb lo hi : Nat} {gs : List GtL} {U : Us} {L : List (Nat × TypeId × Array Value)}
theorem lg_used2 (h : Lg w tn (H :: ⟨g, mb, lo, hi, gs, U⟩ :: Gs) L u) (s : ByteArray) (k : Int) (hs : s.size ≤ 140737488355328) : Calls Try.prog 20 #[.pointer (some ⟨g, 0, none⟩), .string s, .int .i64 k] u fun e u' => e = .returned (.int .i64 (U s k : Int)) ∧ Lg w tn (H :: ⟨g, mb, lo, hi, gs, U⟩ :: Gs) L u' :=
  (lg_used h.swap s k hs).mono fun e u' hh => ⟨hh.1, hh.2.swap⟩
theorem lg_admit2 (h : Lg w tn (H :: ⟨g, mb, lo, hi, gs, U⟩ :: Gs) L u) (s : ByteArray) (a : Nat) (hs : s.size ≤ 140737488355328) (ha : a < 4294967296) : Calls Try.prog 16 #[.pointer (some ⟨g, 0, none⟩), .string s, .int .u32 (a : Int)] u fun e u' => e = .returned (.int .i64 (adI (gtF tn s) a)) ∧ Lg w tn (H :: ⟨g, mb, lo, hi, gs, U⟩ :: Gs) L u' :=
  (lg_admit h.swap s a hs ha).mono fun e u' hh => ⟨hh.1, hh.2.swap⟩
theorem lg_take2 (h : Lg w tn (H :: ⟨g, mb, lo, hi, gs, U⟩ :: Gs) L u) (s : ByteArray) (k : Int) (hs : s.size ≤ 140737488355328) : Calls Try.prog 18 #[.pointer (some ⟨g, 0, none⟩), .string s, .int .i64 k] u fun e u' => e = .returned (.int .i64 (tkI (gtF tn s) (U s k) k)) ∧ Lg w tn (H :: ⟨g, mb, lo, hi, gs, tkU (gtF tn s) U s k⟩ :: Gs) L u' :=
  (lg_take h.swap s k hs).mono fun e u' hh => ⟨hh.1, hh.2.swap⟩
theorem lg_give2 (h : Lg w tn (H :: ⟨g, mb, lo, hi, gs, U⟩ :: Gs) L u) (s : ByteArray) (k : Int) (hs : s.size ≤ 140737488355328) : Calls Try.prog 14 #[.pointer (some ⟨g, 0, none⟩), .string s, .int .i64 k] u fun e u' => e = .returned (.bool (gvB U s k)) ∧ Lg w tn (H :: ⟨g, mb, lo, hi, gs, gvU U s k⟩ :: Gs) L u' :=
  (lg_give h.swap s k hs).mono fun e u' hh => ⟨hh.1, hh.2.swap⟩
end
theorem InCf.onG {w u : World} {x : Cv} (h : InCf w x) (hb : Below w.heap.size w u) : InCf u x := ⟨h.rc.on hb, h.n, fun y hy => ⟨(h.each y hy).r.on hb, (h.each y hy).nn, (h.each y hy).nk⟩⟩
theorem gnew_no {x : Cv} {w : World} (h : RC w x) (hc : cfgB x.cg = false) : ∀ u, Below w.heap.size w u → Calls Try.prog 12 #[.agg (ccs x)] u fun e u' => e = .returned (.pointer none) ∧ Below u.heap.size u u' := fun u hu =>
  (gnew_ok x u (h.on hu)).mono fun e u' hh => by
    obtain ⟨⟨_, h1⟩ | ⟨h1, _⟩, hb⟩ := hh
    · exact ⟨h1, hb⟩
    · rw [hc] at h1; cases h1
theorem gnew_yes {x : Cv} {w : World} (h : RC w x) (hc : cfgB x.cg = true) : ∀ u Gs (L : List (Nat × TypeId × Array Value)), Lg w x.cg.tens Gs L u → Calls Try.prog 12 #[.agg (ccs x)] u fun e u' => ∃ g mb lo hi gs, e = .returned (.pointer (some ⟨g, 0, none⟩)) ∧ Lg w x.cg.tens (⟨g, mb, lo, hi, gs, U0⟩ :: Gs) L u' := fun u Gs L hu =>
  (gnew_ok x u (h.on hu.l)).mono fun e u' hh => by
    obtain ⟨⟨h1, _⟩ | ⟨_, g, mb, gs, h1, h2, h3⟩, hb⟩ := hh
    · rw [hc] at h1; cases h1
    · have h4 := hu.on hb
      refine ⟨g, mb, u.heap.size, u'.heap.size, gs, h1, fun F hF => ?_, List.pairwise_cons.2 ⟨fun F hF => .inr (hu.z F hF).2.2.2, h4.ap⟩, h4.kb, h4.l⟩
      rcases List.mem_cons.1 hF with rfl | hF
      · exact ⟨h3, h2, hu.l.size, Nat.le_refl _⟩
      · exact h4.z F hF
end Go.Proofs.Ytcplebbaiambgaa
