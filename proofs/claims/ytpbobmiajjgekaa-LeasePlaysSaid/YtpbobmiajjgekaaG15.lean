/- CgIn, LwIn, Lw: texts of this seat, one behind the other. -/
import Derived.Test.YtpbobmiajjgekaaG6
import Derived.ProofKit
import Derived.OpenShut
import Derived.ShutString
import Derived.Deep.Fields
import Derived.Deep.SlicePairs
import Derived.Deep.Strs
import Derived.SizedLaws
import Derived.Test.YtpbobmiajjgekaaLz8
/- A configuration that came in, by value: from the row's reading to 'RC', with bounds out of the row's reach. -/
namespace Go.Proofs.Ytpbobmiajjgekaa
set_option linter.unusedVariables false
set_option maxRecDepth 100000
set_option linter.unusedSimpArgs false
open Go.ChangeShapes Go.WideShapes Go.ChangeAt Go.RowKit Go.Deep

section
variable {H : Type} {enc : TypeId × Value → H} {P : Program} {W : World} {t e : TypeId}

/-- Every weight of it is within the reach. -/
def Wt (P : Program) (t : TypeId) (d : DataW H) : Prop := ∀ n ∈ d.weights P t, n ≤ reachBytes
theorem wt_all : ∀ (l : List (DataW H)), (∀ n ∈ DataW.weightsAll P e l, n ≤ reachBytes) → ∀ x ∈ l, Wt P e x
  | [], _, _, h => by cases h
  | d :: r, h, x, hx => by
    simp only [DataW.weightsAll, List.mem_append] at h
    rcases List.mem_cons.1 hx with hx | hx
    · subst hx; exact fun n hn => h n (.inl hn)
    · exact wt_all r (fun n hn => h n (.inr hn)) x hx
theorem Wt.slice {el sp : List (DataW H)} (hu : P.underlying t = some (.slice e)) (h : Wt P t (.slice el sp)) : el.length * P.bytesOf e ≤ reachBytes ∧ ∀ x ∈ el, Wt P e x := by
  unfold Wt at h
  simp only [DataW.weights, hu] at h
  refine ⟨?_, wt_all el fun n hn => h n (by simp [hn])⟩
  have := h ((el.length + sp.length) * P.bytesOf e) (by simp)
  exact Nat.le_trans (Nat.mul_le_mul_right _ (Nat.le_add_right _ _)) this
theorem Wt.part {fs : Array Field} {parts : List (DataW H)} (hu : P.underlying t = some (.struct fs)) (h : Wt P t (.agg parts)) {j : Nat} {f : Field} {d : DataW H} (hf : fs[j]? = some f) (hd : parts[j]? = some d) : Wt P f.type d := fun n hn => by
  unfold Wt at h
  simp only [DataW.weights, hu] at h
  exact h n (DataW.weights_mem_each (j := j) (t := f.type) (d := d) (by simp [hf]) hd n hn)

theorem open_each {fs : Array Field} {A : Option Addr} {n c k : Nat} {y : DataW H × List MemPlace} {fuel : Nat} (ht : P.underlying t = some (.slice e)) (he : P.underlying e = some (.struct fs)) (ce : P.cellsOf e = k) (h1 : 1 ≤ P.bytesOf e)
    (h : DataW.trod enc P W 0 (fun _ => true) true fuel t [.slice A n c] = some y) (hw : Wt P t y.1) :
    (A = none ∧ n = 0 ∧ c = 0) ∨ ∃ a, A = some a ∧ n ≤ c ∧ c ≤ maxLen ∧ n ≤ reachBytes ∧ ∀ i, i < n → ∃ cs fuel' z, cs.length = k ∧ (∀ j, (hj : j < cs.length) → W.cell? (a.add (i * k + j)) = some cs[j]) ∧ DataW.trod enc P W 0 (fun _ => true) true fuel' e cs = some z ∧ Wt P e z.1 := by
  rcases open_slice ht h with ⟨hcs, _⟩ | ⟨a, len, cap, m, k', D, Pl, hcs, _, hl, hm, hmm, hy, hx⟩
  · left
    simpa using hcs
  · right
    simp only [List.cons.injEq, Value.slice.injEq, and_true] at hcs
    obtain ⟨rfl, rfl, rfl⟩ := hcs
    simp only [if_true] at hmm
    subst hmm
    subst hy
    obtain ⟨w1, w2⟩ := Wt.slice ht hw
    rw [List.length_map, List.length_range] at w1
    refine ⟨a, rfl, hl, hm, Nat.le_trans (Nat.le_mul_of_pos_right _ h1) w1, fun i hi => ?_⟩
    obtain ⟨cs', g1, g2⟩ := hx i (by omega)
    rw [ce] at g1
    obtain ⟨_, hlen, hcell⟩ := World.cells?_some g1
    refine ⟨cs', k', _, hlen, fun j hj => ?_, g2, w2 _ (List.mem_map.2 ⟨i, List.mem_range.2 hi, rfl⟩)⟩
    have := hcell j (by omega)
    rw [Go.Deep.add_add] at this
    rw [this]
    exact List.getElem?_eq_getElem hj
theorem open_field {fs : Array Field} {cs : List Value} {y : DataW H × List MemPlace} {fuel : Nat} (he : P.underlying e = some (.struct fs)) (hone : oneCellFields P fs = true) (h : DataW.trod enc P W 0 (fun _ => true) true fuel e cs = some y) (hw : Wt P e y.1)
    (i : Nat) (f : Field) (hf : fs[i]? = some f) (v : Value) (hv : cs[i]? = some v) : ∃ n z, DataW.trod enc P W 0 (fun _ => true) true n f.type [v] = some z ∧ Wt P f.type z.1 := by
  obtain ⟨xs, n, _, hx, _, hlen, hg⟩ := DataW.trod_struct he h
  subst hx
  obtain ⟨ho, hk⟩ := hone_of hone i f hf
  have hi : i < fs.size := (Array.getElem?_eq_some_iff.1 hf).1
  have h1 := hg i f hf
  have hil : i < cs.length := (List.getElem?_eq_some_iff.1 hv).1
  have e1 : (cs.drop i).take 1 = [v] := by
    rw [List.drop_eq_getElem_cons hil]
    have : cs[i] = v := (List.getElem?_eq_some_iff.1 hv).2
    rw [this]; rfl
  rw [ho, hk, e1] at h1
  refine ⟨n, xs[i]'(by omega), h1.trans (List.getElem?_eq_getElem (by omega)), Wt.part he hw hf ?_⟩
  rw [List.getElem?_map, List.getElem?_eq_getElem (by omega)]; rfl
theorem open_str {v : Value} {n : Nat} {z : DataW H × List MemPlace} (hu : P.underlying t = some .string) (h : DataW.trod enc P W 0 (fun _ => true) true n t [v] = some z) (hw : Wt P t z.1) : ∃ s : ByteArray, v = .string s ∧ s.size ≤ 140737488355328 := by
  obtain ⟨s, q, hz, _⟩ := DataW.trod_string hu h
  refine ⟨s, by simpa using q, ?_⟩
  rw [hz] at hw
  have h1 : s.data.toList.length ≤ reachBytes := hw _ (by simp [DataW.weights])
  have h2 : reachBytes < 140737488355328 := reachBytes_lt
  have h3 : s.data.toList.length = s.size := rfl
  omega
theorem open_num {v : Value} {n : Nat} {k : IntKind} {z : DataW H × List MemPlace} (hu : P.underlying t = some (.int k)) (h : DataW.trod enc P W 0 (fun _ => true) true n t [v] = some z) : ∃ a : Int, v = .int k a ∧ (Lit.int k a).wf = true := by
  obtain ⟨a, q, _, w⟩ := DataW.trod_int hu h
  exact ⟨a, by simpa using q, w⟩
theorem open_slice_of {v : Value} {n : Nat} {z : DataW H × List MemPlace} (hu : P.underlying t = some (.slice e)) (h : DataW.trod enc P W 0 (fun _ => true) true n t [v] = some z) : ∃ A m c, v = .slice A m c := by
  rcases open_slice hu h with ⟨hcs, _⟩ | ⟨a, len, cap, m, k', D, Pl, hcs, _⟩
  · exact ⟨none, 0, 0, by simpa using hcs⟩
  · exact ⟨some a, len, cap, by simpa using hcs⟩
end

theorem lit_u32 {a : Int} (h : (Lit.int .u32 a).wf = true) : 0 ≤ a ∧ a < 4294967296 := by
  have hmin : IntKind.u32.min = 0 := by decide
  have hmax : IntKind.u32.max = 4294967295 := by decide
  simp only [Lit.wf, Bool.and_eq_true, decide_eq_true_eq, hmin, hmax] at h
  omega
/-- The rows of a slice, out of what each place reads as. -/
theorem rw_of {β : Type} [Inhabited β] {W : World} {k : Nat} (hk : 0 < k) {f : β → Array Value} {A : Option Addr} {n c : Nat} {p : β → Prop} {R : Nat}
    (h : (A = none ∧ n = 0 ∧ c = 0) ∨ ∃ a, A = some a ∧ n ≤ c ∧ c ≤ maxLen ∧ n ≤ R ∧ ∀ i, i < n → ∃ x : β, p x ∧ ∀ j, j < k → W.cell? (a.add (i * k + j)) = (f x)[j]?)
    (hf : ∀ x, (f x).size = k) : ∃ l : List β, l.length = n ∧ Rw k f W A l ∧ Fit A l.length c ∧ n ≤ R ∧ ∀ x ∈ l, p x := by
  rcases h with ⟨rfl, rfl, rfl⟩ | ⟨a, rfl, hl, hm, hr, hx⟩
  · exact ⟨[], rfl, .inl rfl, ⟨by simp, by omega, fun _ => ⟨rfl, rfl⟩⟩, Nat.zero_le _, fun x hx => by cases hx⟩
  · obtain ⟨F, hF⟩ := Go.Deep.choose_lt hx
    unfold maxLen at hm
    refine ⟨(List.range n).map F, by simp, ?_, ⟨by simpa using hl, by omega, fun h => by cases h⟩, hr, fun x hx => ?_⟩
    · by_cases hn : n = 0
      · left; rw [hn]; rfl
      · right
        obtain ⟨b, o, spot⟩ := a
        obtain ⟨_, h0⟩ := hF 0 (by omega)
        have h00 := h0 0 hk
        rw [Array.getElem?_eq_getElem (by rw [hf]; exact hk)] at h00
        have hspot : spot = none := by simpa [Addr.add] using World.cell?_spot h00
        subst hspot
        refine ⟨b, o, rfl, ?_, fun i hi j hj => ?_⟩
        · have := World.block_lt_of_cell? W _ h00
          rw [add_plain] at this
          exact this
        · have hi' : i < n := by simpa using hi
          have e : ((List.range n).map F)[i] = F i := by simp
          rw [e]
          have := (hF i hi').2 j hj
          rw [add_plain] at this
          rw [Nat.add_assoc]
          exact this
    · obtain ⟨i, hi, rfl⟩ := List.mem_map.1 hx
      exact (hF i (List.mem_range.1 hi)).1

instance : Inhabited Nt := ⟨⟨0, 0⟩⟩
instance : Inhabited Tk := ⟨⟨ByteArray.empty, ByteArray.empty, 0⟩⟩
instance : Inhabited Tv := ⟨⟨⟨ByteArray.empty, 0, 0, [], []⟩, none, 0, none, 0⟩⟩

theorem five {cs : List Value} (h : cs.length = 5) : ∃ a b c d e, cs = [a, b, c, d, e] := by
  match cs, h with
  | [a, b, c, d, e], _ => exact ⟨a, b, c, d, e, rfl⟩

section
variable {H : Type} {enc : TypeId × Value → H} {W : World}
/-- A tenant that came in. -/
structure InTv (W : World) (x : Tv) : Prop where
  r : RT1 W x
  nn : x.t.nets.length ≤ 140737488355328
  nk : x.t.toks.length ≤ 140737488355328
end
/-- A configuration that came in. -/
structure InCf (W : World) (x : Cv) : Prop where
  rc : RC W x
  n : x.ts.length ≤ 140737488355328
  each : ∀ y ∈ x.ts, InTv W y

end Go.Proofs.Ytpbobmiajjgekaa

/- Calls of a book of leases that came in: a slice of structs of numbers and two texts. -/
namespace Go.Proofs.Ytpbobmiajjgekaa
set_option linter.unusedVariables false
set_option maxRecDepth 100000
set_option linter.unusedSimpArgs false
open Go.ChangeShapes Go.WideShapes Go.ChangeAt Go.RowKit Go.Deep

theorem lit_u8 {a : Int} (h : (Lit.int .u8 a).wf = true) : 0 ≤ a ∧ a < 256 := by
  have hmin : IntKind.u8.min = 0 := by decide
  have hmax : IntKind.u8.max = 255 := by decide
  simp only [Lit.wf, Bool.and_eq_true, decide_eq_true_eq, hmin, hmax] at h
  omega
theorem lit_u16 {a : Int} (h : (Lit.int .u16 a).wf = true) : 0 ≤ a ∧ a < 65536 := by
  have hmin : IntKind.u16.min = 0 := by decide
  have hmax : IntKind.u16.max = 65535 := by decide
  simp only [Lit.wf, Bool.and_eq_true, decide_eq_true_eq, hmin, hmax] at h
  omega
structure Lo where
  what : Int
  tn : ByteArray
  nm : ByteArray
  conn : Int
  ep : Int
  now : Int
  ttl : Int
abbrev los (x : Lo) : Array Value := #[.int .i64 x.what, .string x.tn, .string x.nm, .int .i64 x.conn, .int .i64 x.ep, .int .i64 x.now, .int .i64 x.ttl]
def Lo.sm (x : Lo) : Prop := x.tn.size ≤ 140737488355328 ∧ x.nm.size ≤ 140737488355328
instance : Inhabited Lo := ⟨⟨0, ByteArray.empty, ByteArray.empty, 0, 0, 0, 0⟩⟩
structure InL (W : World) (A : Option Addr) (l : List Lo) (c : Nat) : Prop where
  r : Rw 7 los W A l
  f : Fit A l.length c
  n : l.length ≤ 140737488355328
  sm : ∀ x ∈ l, x.sm
theorem InL.on {w w' : World} {A : Option Addr} {l : List Lo} {c : Nat} (h : InL w A l c) (hb : Below w.heap.size w w') : InL w' A l c := ⟨h.r.on hb, h.f, h.n, h.sm⟩
theorem InL.at7 {w : World} {A : Option Addr} {l : List Lo} {c : Nat} (h : InL w A l c) (i : Nat) (hi : i < l.length) :
    ∃ b o x, A = some ⟨b, o, none⟩ ∧ l[i]? = some x ∧ x.sm ∧ ∀ u, Below w.heap.size w u → u.cell? ⟨b, o + i * 7, none⟩ = some (.int .i64 x.what) ∧ u.cell? ⟨b, o + i * 7 + 1, none⟩ = some (.string x.tn) ∧ u.cell? ⟨b, o + i * 7 + 2, none⟩ = some (.string x.nm) ∧ u.cell? ⟨b, o + i * 7 + 3, none⟩ = some (.int .i64 x.conn) ∧ u.cell? ⟨b, o + i * 7 + 4, none⟩ = some (.int .i64 x.ep) ∧ u.cell? ⟨b, o + i * 7 + 5, none⟩ = some (.int .i64 x.now) ∧ u.cell? ⟨b, o + i * 7 + 6, none⟩ = some (.int .i64 x.ttl) := by
  obtain ⟨b, o, x, h1, h2, h3⟩ := Rw.at_ h.r i hi
  exact ⟨b, o, x, h1, h2, h.sm x (List.mem_of_getElem? h2), fun u hb => ⟨h3 u hb 0 (by omega), h3 u hb 1 (by omega), h3 u hb 2 (by omega), h3 u hb 3 (by omega), h3 u hb 4 (by omega), h3 u hb 5 (by omega), h3 u hb 6 (by omega)⟩⟩
theorem lop_fields : ∃ f0 f1 f2 f3 f4 f5 f6, Try.prog.underlying 30 = some (.struct #[f0, f1, f2, f3, f4, f5, f6]) ∧ f0.type = 3 ∧ f1.type = 9 ∧ f2.type = 9 ∧ f3.type = 3 ∧ f4.type = 2 ∧ f5.type = 2 ∧ f6.type = 2 ∧ oneCellFields Try.prog #[f0, f1, f2, f3, f4, f5, f6] = true := ⟨_, _, _, _, _, _, _, Try.underlying30, rfl, rfl, rfl, rfl, rfl, rfl, rfl, by kernel_rfl⟩
theorem sevenV {cs : List Value} (h : cs.length = 7) : ∃ a b c d e f g, cs = [a, b, c, d, e, f, g] := by
  match cs, h with
  | [a, b, c, d, e, f, g], _ => exact ⟨a, b, c, d, e, f, g, rfl⟩
set_option maxRecDepth 100000 in
theorem open_lops {H : Type} {enc : TypeId × Value → H} {W : World} {r : Reach} {b0 : Nat} {v : Value} {d : DataW H} {p : List MemPlace} {ts : List TypeId} {ds : List (DataW H)} {j : Nat} (hv : Value.okWide Try.prog W r b0 22 v) (h : DataW.Trod enc Try.prog W 0 (fun _ => true) true 22 v d p)
    (hz : (DataW.weightsEach Try.prog ts ds).all (· ≤ reachBytes) = true) (hj : ts[j]? = some 22) (hd : ds[j]? = some d) : ∃ A c, ∃ l : List Lo, v = .slice A l.length c ∧ InL W A l c := by
  obtain ⟨f0, f1, f2, f3, f4, f5, f6, hu, t0, t1, t2, t3, t4, t5, t6, hone⟩ := lop_fields
  obtain ⟨A0, n0, c0, rfl⟩ := okWide_slice Try.underlying22 hv
  obtain ⟨fuel, hfu⟩ := h
  have hw : Wt Try.prog 22 d := fun n hn => by
    have := List.all_eq_true.1 hz _ (DataW.weights_mem_each hj hd n hn)
    simpa using this
  have hfu' : DataW.trod enc Try.prog W 0 (fun _ => true) true fuel 22 [.slice A0 n0 c0] = some (d, p) := hfu
  have h0 := open_each Try.underlying22 hu (k := 7) (by kernel_rfl) (of_decide_eq_true (by kernel_rfl)) hfu' hw
  obtain ⟨l, hl, h1, h2, h3, h4⟩ := rw_of (β := Lo) (k := 7) (by omega) (f := los) (p := fun x => x.sm) (R := reachBytes) (W := W) (A := A0) (n := n0) (c := c0) (h0.imp id fun ⟨a, e, k1, k2, k3, k4⟩ => ⟨a, e, k1, k2, k3, fun i hi => by
    obtain ⟨cs, fuel', y, q1, q2, q3, q4⟩ := k4 i hi
    obtain ⟨v0, v1, v2, v3, v4, v5, v6, rfl⟩ := sevenV q1
    obtain ⟨n0, z0, r0, _⟩ := open_field hu hone q3 q4 0 f0 rfl v0 rfl
    obtain ⟨n1, z1, r1, y1⟩ := open_field hu hone q3 q4 1 f1 rfl v1 rfl
    obtain ⟨n2, z2, r2, y2⟩ := open_field hu hone q3 q4 2 f2 rfl v2 rfl
    obtain ⟨n3, z3, r3, _⟩ := open_field hu hone q3 q4 3 f3 rfl v3 rfl
    obtain ⟨n4, z4, r4, _⟩ := open_field hu hone q3 q4 4 f4 rfl v4 rfl
    obtain ⟨n5, z5, r5, _⟩ := open_field hu hone q3 q4 5 f5 rfl v5 rfl
    obtain ⟨n6, z6, r6, _⟩ := open_field hu hone q3 q4 6 f6 rfl v6 rfl
    rw [t0] at r0
    rw [t1] at r1 y1
    rw [t2] at r2 y2
    rw [t3] at r3
    rw [t4] at r4
    rw [t5] at r5
    rw [t6] at r6
    obtain ⟨x0, rfl, _⟩ := open_num Try.underlying3 r0
    obtain ⟨x1, rfl, w1⟩ := open_str Try.underlying9 r1 y1
    obtain ⟨x2, rfl, w2⟩ := open_str Try.underlying9 r2 y2
    obtain ⟨x3, rfl, _⟩ := open_num Try.underlying3 r3
    obtain ⟨x4, rfl, _⟩ := open_num Try.underlying2 r4
    obtain ⟨x5, rfl, _⟩ := open_num Try.underlying2 r5
    obtain ⟨x6, rfl, _⟩ := open_num Try.underlying2 r6
    refine ⟨⟨x0, x1, x2, x3, x4, x5, x6⟩, ⟨w1, w2⟩, fun j hj => ?_⟩
    have := q2 j hj
    rw [this]
    match j, hj with
    | 0, _ => rfl
    | 1, _ => rfl
    | 2, _ => rfl
    | 3, _ => rfl
    | 4, _ => rfl
    | 5, _ => rfl
    | 6, _ => rfl⟩) (fun _ => rfl)
  have h5 : reachBytes < 140737488355328 := reachBytes_lt
  exact ⟨A0, c0, l, by rw [hl], h1, h2, by omega, h4⟩
end Go.Proofs.Ytpbobmiajjgekaa

/- A book of the law's own, with letters; rows of leases that are read. -/
namespace Go.Proofs.Ytpbobmiajjgekaa
set_option linter.unusedVariables false
set_option maxRecDepth 100000
set_option linter.unusedSimpArgs false
open Go.RowKit

variable {W u : World} {gb : Nat} {g most : Int} {b : Bo} {G : List Nat}

/-- The slice at A reads as the leases l, and lies in none of the blocks of K. -/
def Rv (w : World) (K : List Nat) (A : Option Addr) (l : List Ls) : Prop :=
  l = [] ∨ ∃ b o, A = some ⟨b, o, none⟩ ∧ b ∉ K ∧ b < w.heap.size ∧ ∀ i, (h : i < l.length) → ∀ j, j < 6 → w.cell? ⟨b, o + i * 6 + j, none⟩ = (lsc l[i])[j]?
theorem Rv.step {w w' : World} {G G' : List Nat} {A : Option Addr} {l : List Ls} (h : Rv w G A l) (s : Sp w w' G G') : Rv w' G' A l := by
  rcases h with h | ⟨b, o, e, hn, hb, hc⟩
  · exact .inl h
  · refine .inr ⟨b, o, e, fun hx => ?_, Nat.lt_of_lt_of_le hb s.k.size, fun i hi j hj => (World.cell?_of_block (w := w) (a := ⟨b, o + i * 6 + j, none⟩) (s.k.block b hb hn)).trans (hc i hi j hj)⟩
    rcases s.g b hx with h1 | h1
    · exact hn h1
    · omega
theorem Rv.rw_ {w : World} {K : List Nat} {A : Option Addr} {l : List Ls} (h : Rv w K A l) : Rw 6 lsc w A l := by
  rcases h with h | ⟨b, o, e, _, hb, hc⟩
  · exact .inl h
  · exact .inr ⟨b, o, e, hb, hc⟩
theorem Rv.less {w : World} {K K' : List Nat} {A : Option Addr} {l : List Ls} (h : Rv w K A l) (hK : ∀ x ∈ K', x ∈ K) : Rv w K' A l := by
  rcases h with h | ⟨b, o, e, hn, hb, hc⟩
  · exact .inl h
  · exact .inr ⟨b, o, e, fun hx => hn (hK b hx), hb, hc⟩
theorem rv_of {w : World} {B : Nat} {A : Option Addr} {c : Nat} {l : List Ls} {K : List Nat} (h : OL13 w B A c l) (hK : ∀ x ∈ K, x < B) : Rv w K A l := by
  by_cases h0 : l = []
  · exact .inl h0
  · have hp : 0 < l.length := List.length_pos_iff.2 h0
    obtain ⟨q, cap, hv, hb, hl⟩ := World.ownsRow.form h hp
    injection hv with h1 _ _
    subst h1
    refine .inr ⟨q, 0, rfl, fun hx => by have := hK q hx; omega, hl, fun i hi j hj => ?_⟩
    have hlt : i * 6 + j < l.length * 6 := by omega
    have e1 := World.ownsRow.cellAt h (i * 6 + j) hlt
    rw [Nat.zero_add, e1, fl_at (f := lsc) (k := 6) (fun _ => rfl) l i hi j hj]
/-- A book of the law's own. -/
structure Lw (W u : World) (G : List Nat) (gb : Nat) (g most : Int) (b : Bo) : Prop where
  z : ∃ mb ad, Lz u gb mb ad g most b ∧ ∀ y ∈ ftL gb mb ad b, y ∈ G
  l : Below W.heap.size W u
  lo : ∀ y ∈ G, W.heap.size ≤ y
  hi : ∀ y ∈ G, y < u.heap.size
theorem Lw.ok (h : Lw W u G gb g most b) : Gb g most b := by obtain ⟨mb, ad, h1, _⟩ := h.z; exact h1.ok
theorem Lw.step {u' : World} {G' : List Nat} {b' : Bo} (h : Lw W u G gb g most b) (s : Sp u u' G G') (z : ∃ mb ad, Lz u' gb mb ad g most b' ∧ ∀ y ∈ ftL gb mb ad b', y ∈ G') (hi : ∀ y ∈ G', y < u'.heap.size) : Lw W u' G' gb g most b' :=
  ⟨z, h.l.trans (s.k.below h.l.size h.lo), fun y hy => by
    rcases s.g y hy with e | e
    · exact h.lo y e
    · exact Nat.le_trans h.l.size e, hi⟩
theorem Lw.ke {u' : World} (h : Lw W u G gb g most b) (k : Ke [] u u') : Lw W u' G gb g most b := by
  obtain ⟨mb, ad, h1, h2⟩ := h.z
  exact h.step (Sp.of k.nil) ⟨mb, ad, h1.ke k (fun _ _ hx => by cases hx), h2⟩ (fun y hy => Nat.lt_of_lt_of_le (h.hi y hy) k.size)
theorem Lw.on {u' : World} (h : Lw W u G gb g most b) (k : Below u.heap.size u u') : Lw W u' G gb g most b := h.ke (Ke.of k)
theorem Lw.set6 (h : Lw W u G gb g most b) {k : Nat} (hk : k ∉ G) (hW : W.heap.size ≤ k) (v0 v1 v2 v3 v4 v5 : Value) : Lw W (Proofs.Ytpbobmiajjgekaa.set6 u k v0 v1 v2 v3 v4 v5) G gb g most b := by
  obtain ⟨mb, ad, h1, h2⟩ := h.z
  refine ⟨⟨mb, ad, h1.set6 (fun y hy e => hk (by rw [← e]; exact h2 y hy)) _ _ _ _ _ _, h2⟩, below_set6 h.l hW _ _ _ _ _ _, h.lo, fun y hy => ?_⟩
  have := (ke_set u k v0 v1 v2 v3 v4 v5).size
  exact Nat.lt_of_lt_of_le (h.hi y hy) this
theorem Sp.set6 {v : World} {G' : List Nat} (h : Sp u v G G') {k : Nat} (hk : u.heap.size ≤ k) (v0 v1 v2 v3 v4 v5 : Value) : Sp u (Proofs.Ytpbobmiajjgekaa.set6 v k v0 v1 v2 v3 v4 v5) G G' := ⟨ke_set6' h.k hk _ _ _ _ _ _, h.g⟩
theorem Sp.below {v w : World} {G' : List Nat} (h : Sp u v G G') (hb : Below v.heap.size v w) : Sp u w G G' := h.trans (Sp.of (Ke.of hb).nil)
theorem Sp.alloc {v : World} {G' : List Nat} (h : Sp u v G G') (o : Obj) : Sp u (v.alloc o) G G' := h.below ((Below.refl _ _).alloc (Nat.le_refl _) _)
/-- New, where both times may be. -/
theorem w_lnew (h : Below W.heap.size W u) (hg : timB g = true) (hm : timB most = true) : Calls Try.prog 11 #[.int .i64 g, .int .i64 most] u fun e u' => ∃ G gb, e = .returned (.pointer (some ⟨gb, 0, none⟩)) ∧ Lw W u' G gb g most ⟨[], 1⟩ ∧ Ke [] u u' ∧ ∀ y ∈ G, u.heap.size ≤ y :=
  (lznew_ok g most u).mono fun e u' hh => by
    obtain ⟨⟨h1, _⟩ | ⟨_, gb, mb, rfl, hz, k1, k2⟩, hb⟩ := hh
    · rw [hg, hm] at h1; cases h1
    · have hlt := hz.lt
      refine ⟨ftL gb mb (fun _ => 0) ⟨[], 1⟩, gb, rfl, ⟨⟨mb, _, hz, fun y hy => hy⟩, h.trans (hb.mono h.size), fun y hy => ?_, hlt⟩, Ke.of hb, fun y hy => ?_⟩
      · rcases mem_ftL.1 hy with e | e | ⟨x, hx, _⟩
        · have := h.size; omega
        · have := h.size; omega
        · cases hx
      · rcases mem_ftL.1 hy with e | e | ⟨x, hx, _⟩
        · omega
        · omega
        · cases hx
theorem w_lnew_no (u : World) (hg : (timB g && timB most) = false) : Calls Try.prog 11 #[.int .i64 g, .int .i64 most] u fun e u' => e = .returned (.pointer none) ∧ Below u.heap.size u u' :=
  (lznew_ok g most u).mono fun e u' hh => by
    obtain ⟨⟨_, h2⟩ | ⟨h1, _⟩, hb⟩ := hh
    · exact ⟨h2, hb⟩
    · rw [hg] at h1; cases h1
theorem w_holder (h : Lw W u G gb g most b) (s : ByteArray) (now : Int) (hs : s.size ≤ 140737488355328) (x : Ls) (is : Bool) (hx : (holdL b s now).getD zeroLs = x) (hi : (holdL b s now).isSome = is) :
    Calls Try.prog 27 #[.pointer (some ⟨gb, 0, none⟩), .string s, .int .i64 now] u fun e u' => e = .returned (.tuple #[.agg (lsc x), .bool is]) ∧ Below u.heap.size u u' := by
  obtain ⟨mb, ad, h1, _⟩ := h.z
  subst hx; subst hi
  exact lholder_ok h1 s now hs
theorem w_all (h : Lw W u G gb g most b) (n : Nat) (hn : b.l.length = n) :
    Calls Try.prog 29 #[.pointer (some ⟨gb, 0, none⟩)] u fun e u' => ∃ A c, e = .returned (.slice A n c) ∧ Rv u' G A b.l ∧ Fit A n c ∧ Below u.heap.size u u' := by
  obtain ⟨mb, ad, h1, _⟩ := h.z
  subst hn
  exact (lall_ok h1).mono fun e u' ⟨A, c, k1, k2, k3⟩ => ⟨A, c, k1, rv_of k2 h.hi, k2.fit, k3⟩
theorem lbs_G {mb : Nat} {ad : ByteArray → Nat} (h1 : Lz u gb mb ad g most b) (h2 : ∀ y ∈ ftL gb mb ad b, y ∈ G) : ∀ y ∈ lbs ad b.l, y ∈ G := fun y hy => h2 y (ft_lbs h1 y hy)
theorem w_leave (h : Lw W u G gb g most b) (conn now : Int) (n : Nat) (L : List Ls) (b' : Bo) (hL : (leaveL g b conn now).1 = L) (hb : (leaveL g b conn now).2 = b') (hn : L.length = n) :
    Calls Try.prog 21 #[.pointer (some ⟨gb, 0, none⟩), .int .i64 conn, .int .i64 now] u fun e u' => ∃ A c, e = .returned (.slice A n c) ∧ Rv u' G A L ∧ Fit A n c ∧ Lw W u' G gb g most b' ∧ Sp u u' G G := by
  obtain ⟨mb, ad, h1, h2⟩ := h.z
  subst hL; subst hb; subst hn
  refine (lleave_ok h1 conn now).mono fun e u' hp => ?_
  obtain ⟨A, c, k1, k2⟩ := hp.e
  have s : Sp u u' G G := Sp.of (hp.k.more (lbs_G h1 h2))
  refine ⟨A, c, k1, rv_of k2 h.hi, k2.fit, h.step s ⟨mb, ad, hp.z, fun y hy => h2 y ?_⟩ (fun y hy => Nat.lt_of_lt_of_le (h.hi y hy) hp.k.size), s⟩
  unfold leaveL at hy
  split at hy
  · exact hy
  · rw [show ftL gb mb ad (b.l.filter _, (⟨b.l.map (lvX g conn now), b.nx⟩ : Bo)).2 = ftL gb mb ad b from ft_map (lvX_name g conn now)] at hy
    exact hy
theorem w_lapse (h : Lw W u G gb g most b) (now : Int) (n : Nat) (L : List Ls) (b' : Bo) (hL : (lapseL g b now).1 = L) (hb : (lapseL g b now).2 = b') (hn : L.length = n) :
    Calls Try.prog 23 #[.pointer (some ⟨gb, 0, none⟩), .int .i64 now] u fun e u' => ∃ A c, e = .returned (.slice A n c) ∧ Rv u' G A L ∧ Fit A n c ∧ Lw W u' G gb g most b' ∧ Sp u u' G G := by
  obtain ⟨mb, ad, h1, h2⟩ := h.z
  subst hL; subst hb; subst hn
  refine (llapse_ok h1 now).mono fun e u' hp => ?_
  obtain ⟨A, c, k1, k2⟩ := hp.e
  have s : Sp u u' G G := Sp.of (hp.k.more (fun y hy => by
    rcases List.mem_cons.1 hy with e | e
    · rw [e]; exact h2 _ (mem_ftL.2 (.inr (.inl rfl)))
    · exact lbs_G h1 h2 y e))
  refine ⟨A, c, k1, rv_of k2 h.hi, k2.fit, h.step s ⟨mb, ad, hp.z, fun y hy => h2 y ?_⟩ (fun y hy => Nat.lt_of_lt_of_le (h.hi y hy) hp.k.size), s⟩
  unfold lapseL at hy
  split at hy
  · exact hy
  · rcases mem_ftL.1 hy with e | e | ⟨x, hx, e⟩
    · exact mem_ftL.2 (.inl e)
    · exact mem_ftL.2 (.inr (.inl e))
    · obtain ⟨y, hy, rfl⟩ := List.mem_map.1 (List.mem_filter.1 hx).1
      rw [lpX_name] at e
      exact mem_ftL.2 (.inr (.inr ⟨y, hy, e⟩))
theorem w_renew (h : Lw W u G gb g most b) (ten s : ByteArray) (ep now ttl : Int) (hs : s.size ≤ 140737488355328) (R : Ls × Int × Bo) (hR : renewL most b ten s ep now ttl = R) :
    Calls Try.prog 14 #[.pointer (some ⟨gb, 0, none⟩), .string ten, .string s, .int .i64 ep, .int .i64 now, .int .i64 ttl] u fun e u' => e = .returned (.tuple #[.agg (lsc R.1), .int .i64 R.2.1]) ∧ Lw W u' G gb g most R.2.2 ∧ Sp u u' G G := by
  obtain ⟨mb, ad, h1, h2⟩ := h.z
  subst hR
  refine (lrenew_ok h1 ten s ep now ttl hs).mono fun e u' hp => ?_
  have s1 : Sp u u' G G := Sp.of (hp.k.more (lbs_G h1 h2))
  refine ⟨hp.e, h.step s1 ⟨mb, ad, hp.z, fun y hy => h2 y ?_⟩ (fun y hy => Nat.lt_of_lt_of_le (h.hi y hy) hp.k.size), s1⟩
  unfold renewL at hy
  split at hy
  · exact hy
  · split at hy
    · rename_i h0
      obtain ⟨x, hf, hx, _⟩ := own_zero h0
      dsimp only at hy
      rw [hx, ft_pt h1.ok.up (y := x) (by show fnL x.name b.l = some x; exact fn_of_mem h1.ok.up (fn_name hf).2)] at hy
      exact hy
    · exact hy
theorem w_release (h : Lw W u G gb g most b) (ten s : ByteArray) (ep now : Int) (hs : s.size ≤ 140737488355328) (R : Int × Bo) (hR : releaseL g b ten s ep now = R) :
    Calls Try.prog 16 #[.pointer (some ⟨gb, 0, none⟩), .string ten, .string s, .int .i64 ep, .int .i64 now] u fun e u' => e = .returned (.int .i64 R.1) ∧ Lw W u' G gb g most R.2 ∧ Sp u u' G G := by
  obtain ⟨mb, ad, h1, h2⟩ := h.z
  subst hR
  refine (lrelease_ok h1 ten s ep now hs).mono fun e u' hp => ?_
  have s1 : Sp u u' G G := Sp.of (hp.k.more (lbs_G h1 h2))
  refine ⟨hp.e, h.step s1 ⟨mb, ad, hp.z, fun y hy => h2 y ?_⟩ (fun y hy => Nat.lt_of_lt_of_le (h.hi y hy) hp.k.size), s1⟩
  unfold releaseL at hy
  split at hy
  · rename_i h0
    obtain ⟨x, hf, hx, _⟩ := own_zero h0
    dsimp only at hy
    rw [hx, ft_pt h1.ok.up (y := x) (by show fnL x.name b.l = some x; exact fn_of_mem h1.ok.up (fn_name hf).2)] at hy
    exact hy
  · exact hy
theorem w_evict (h : Lw W u G gb g most b) (s : ByteArray) (now : Int) (hs : s.size ≤ 140737488355328) (x : Ls) (is : Bool) (b' : Bo) (hx : (evictL b s now).1.getD zeroLs = x) (hi : (evictL b s now).1.isSome = is) (hb : (evictL b s now).2 = b') :
    Calls Try.prog 18 #[.pointer (some ⟨gb, 0, none⟩), .string s, .int .i64 now] u fun e u' => e = .returned (.tuple #[.agg (lsc x), .bool is]) ∧ Lw W u' G gb g most b' ∧ Sp u u' G G := by
  obtain ⟨mb, ad, h1, h2⟩ := h.z
  subst hx; subst hi; subst hb
  refine (levict_ok h1 s now hs).mono fun e u' hp => ?_
  have s1 : Sp u u' G G := Sp.of (hp.k.more (fun y hy => by rw [List.mem_singleton.1 hy]; exact h2 _ (mem_ftL.2 (.inr (.inl rfl)))))
  refine ⟨hp.e, h.step s1 ⟨mb, ad, hp.z, fun y hy => h2 y ?_⟩ (fun y hy => Nat.lt_of_lt_of_le (h.hi y hy) hp.k.size), s1⟩
  unfold evictL at hy
  split at hy
  · exact hy
  · cases hh : holdL b s now with
    | none => rw [hh] at hy; exact hy
    | some z => rw [hh] at hy; exact ft_del y hy
theorem w_claim (h : Lw W u G gb g most b) (ten s : ByteArray) (conn now ttl : Int) (ht : ten.size ≤ 140737488355328) (hs : s.size ≤ 140737488355328) (hnx : b.nx ≤ 1000000) (R : Ls × Int × Bo) (hR : claimL g most b ten s conn now ttl = R) :
    Calls Try.prog 25 #[.pointer (some ⟨gb, 0, none⟩), .string ten, .string s, .int .i64 conn, .int .i64 now, .int .i64 ttl] u fun e u' => ∃ G', e = .returned (.tuple #[.agg (lsc R.1), .int .i64 R.2.1]) ∧ Lw W u' G' gb g most R.2.2 ∧ Sp u u' G G' := by
  obtain ⟨mb, ad, h1, h2⟩ := h.z
  subst hR
  refine (lclaim_ok h1 ten s conn now ttl ht hs hnx).mono fun e u' hp => ?_
  obtain ⟨ad', hz, hs2⟩ := hp.z
  have s1 : Sp u u' G (G ++ ftL gb mb ad' (claimL g most b ten s conn now ttl).2.2) := ⟨hs2.k.more h2, fun y hy => by
    rcases List.mem_append.1 hy with e | e
    · exact .inl e
    · rcases hs2.g y e with e1 | e1
      · exact .inl (h2 y e1)
      · exact .inr e1⟩
  refine ⟨_, hp.e, h.step s1 ⟨mb, ad', hz, fun y hy => List.mem_append_right _ hy⟩ (fun y hy => ?_), s1⟩
  rcases List.mem_append.1 hy with e | e
  · exact Nat.lt_of_lt_of_le (h.hi y e) hs2.k.size
  · exact hz.lt y e
end Go.Proofs.Ytpbobmiajjgekaa
