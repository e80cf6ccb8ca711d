/- QuX, QuY, CgO, RowsAt, QuR: texts of this seat, one behind the other. -/
import Derived.Test.YtikkiifcnjiegaaQuG
import Derived.Test.YtikkiifcnjiegaaG10
import Derived.Test.YtikkiifcnjiegaaG2
import Derived.Maps.AppendAt
/- Beside a queue: a row of numbers of the law's own. -/
namespace Go.Proofs.Ytikkiifcnjiegaa
set_option linter.unusedVariables false
set_option maxRecDepth 100000
set_option linter.unusedSimpArgs false
open Go.RowKit

/-- The slice at A owns the numbers L: since the law began, and away from the queue's blocks. -/
structure Lx (W u : World) (G : List Nat) (A : Option Addr) (c : Nat) (L : List Int) : Prop where
  o : OI u W.heap.size A c L
  n : ∀ g, (Value.slice A L.length c).ownBlock = some g → g ∉ G
section
variable {W u u' : World} {G G' : List Nat} {A : Option Addr} {c : Nat} {L : List Int} {qb : Nat} {q : List Qn}
theorem Lx.nil (W u : World) (G : List Nat) : Lx W u G none 0 [] := ⟨OI.nil _ _, fun g h => by cases h⟩
theorem Lx.lt (h : Lx W u G A c L) {g : Nat} (hg : (Value.slice A L.length c).ownBlock = some g) : W.heap.size ≤ g ∧ g < u.heap.size := by
  rcases h.o.2 with ⟨hv, _⟩ | ⟨g', cap, cur, hv, hb, hh, _⟩
  · injection hv with h1
    subst h1
    cases hg
  · rw [hv] at hg
    simp [Value.ownBlock] at hg
    subst hg
    exact ⟨hb, lt_of_block hh⟩
theorem Lx.step (h : Lx W u G A c L) (s : Sp u u' G G') : Lx W u' G' A c L :=
  ⟨h.o.keep fun g cs hg hh => hh.ke s.k (h.n g hg), fun g hg hx => by
    rcases s.g g hx with e | e
    · exact h.n g hg e
    · have := (h.lt hg).2; omega⟩
theorem Lx.on (h : Lx W u G A c L) (hb : Below u.heap.size u u') : Lx W u' G A c L := h.step (Sp.of (Ke.of hb).nil)
theorem Lx.ri (h : Lx W u G A c L) : Ri u G A L := by
  rcases h.o.2 with ⟨hv, h0⟩ | ⟨g, cap, cur, hv, hb, hh, r⟩
  · exact .inl (List.eq_nil_of_length_eq_zero h0)
  · have hg : (Value.slice A L.length c).ownBlock = some g := by rw [hv]; rfl
    injection hv with h1 h2 h3
    subst h1
    refine .inr ⟨g, 0, rfl, h.n g hg, lt_of_block hh, fun i hi => ?_⟩
    have := World.ownsRow.cellAt h.o i (by omega)
    rw [Nat.zero_add, this]
    simp [hi]
theorem Lx.of {B : Nat} (h : OI u B A c L) (hB : W.heap.size ≤ B) (hG : ∀ y ∈ G, y < B) : Lx W u G A c L :=
  ⟨h.weak hB, fun g hg hx => by
    have := hG g hx
    rcases h.2 with ⟨hv, _⟩ | ⟨g', cap, cur, hv, hb, hh, _⟩
    · injection hv with h1
      subst h1
      cases hg
    · rw [hv] at hg
      simp [Value.ownBlock] at hg
      subst hg
      omega⟩
theorem Lx.cap (h : Lx W u G A c L) : L.length ≤ c ∧ (A = none → L.length = 0 ∧ c = 0) := ⟨h.o.cap.1, h.o.cap.2.2⟩
/-- One number is appended. -/
theorem Lx.app (h : Lx W u G A c L) (hq : Wq W u G qb q) {v : Int} {t : TypeId} {cs : Array Value} {g c2 : Nat} {w' : World}
    (ha : OI w' 0 (some ⟨g, 0, none⟩) c2 (L ++ [v]) ∧ (u.alloc (.cells cs t)).grownBy w' (Value.slice A L.length c).ownBlock ∧ ((Value.slice A L.length c).ownBlock = some g ∨ g = (u.alloc (.cells cs t)).heap.size)) :
    Lx W w' G (some ⟨g, 0, none⟩) c2 (L ++ [v]) ∧ Wq W w' G qb q := by
  obtain ⟨h1, h2, h3⟩ := ha
  have hk0 : Ke [] u (u.alloc (.cells cs t)) := (Ke.refl _ _).alloc _
  have hW := hq.l.size
  have hg : W.heap.size ≤ g ∧ g ∉ G := by
    rcases h3 with e | e
    · exact ⟨(h.lt e).1, h.n g e⟩
    · rw [World.size_alloc] at e
      exact ⟨by omega, fun hx => by have := hq.hi g hx; omega⟩
  refine ⟨⟨⟨h1.1, ?_⟩, fun g2 hg2 => ?_⟩, ?_⟩
  · rcases h1.2 with hn | ⟨g', cap, cur, hv, _, r⟩
    · exact .inl hn
    · refine .inr ⟨g', cap, cur, hv, ?_, r⟩
      injection hv with e1
      injection e1 with e1
      injection e1 with e1
      subst e1
      exact hg.1
  · simp [Value.ownBlock] at hg2
    subst hg2
    exact hg.2
  · cases ho : (Value.slice A L.length c).ownBlock with
    | none =>
      rw [ho] at h2
      have k := hk0.trans (Ke.grown0 h2)
      exact hq.on k.b0
    | some g0 =>
      rw [ho] at h2
      have k : Ke [g0] u w' := (hk0.nil).trans (Ke.grown h2)
      exact hq.ke k (fun y hy hx => h.n g0 ho (by rw [← List.mem_singleton.1 hx]; exact hy)) (hq.l.trans (k.below hW (fun x hx => by rw [List.mem_singleton.1 hx]; exact (h.lt ho).1)))
end
theorem Ri.tail {w : World} {K : List Nat} {A : Option Addr} {l : List Int} {c : Nat} (h : Ri w K A l) (lo : Nat) (hc : l.length ≤ c) : Ri w K (tailA A c lo) (l.drop lo) := by
  by_cases h0 : l.drop lo = []
  · left; exact h0
  · have hlo : lo < l.length := by
      rcases Nat.lt_or_ge lo l.length with h1 | h1
      · exact h1
      · exact absurd (List.drop_of_length_le h1) h0
    rcases h with h | ⟨b, o, e, hn, hb, hcl⟩
    · rw [h] at hlo; simp at hlo
    · subst e
      rw [tail_at b o c lo (by omega)]
      refine .inr ⟨b, o + lo, rfl, hn, hb, fun i hi => ?_⟩
      have hi' : lo + i < l.length := by rw [List.length_drop] at hi; omega
      have := hcl (lo + i) hi'
      rw [← Nat.add_assoc] at this
      rw [this, List.getElem_drop]
/-- row[lo:]. -/
theorem islice_from (A : Option Addr) (n c lo : Nat) (h : lo ≤ n) (hc : n ≤ c) (u : World) : (Instr.sliceAt 43 (.slice A n c) (some (.int .i64 (lo : Int))) none none).run Try.prog u = .ok (.slice (tailA A c lo) (n - lo) (c - lo)) u := by
  have h1 : (lo : Int) ≤ (n : Int) := by omega
  have h2 : (n : Int) ≤ (c : Int) := by omega
  unfold tailA
  go_simp
/-- row[:hi]. -/
theorem islice_to (A : Option Addr) (n c hi : Nat) (h : hi ≤ n) (hc : n ≤ c) (u : World) : (Instr.sliceAt 43 (.slice A n c) none (some (.int .i64 (hi : Int))) none).run Try.prog u = .ok (.slice A hi c) u := by
  have h1 : (hi : Int) ≤ (n : Int) := by omega
  have h2 : (hi : Int) ≤ (c : Int) := by omega
  go_simp
end Go.Proofs.Ytikkiifcnjiegaa

/- Two queues side by side. -/
namespace Go.Proofs.Ytikkiifcnjiegaa
set_option linter.unusedVariables false
set_option maxRecDepth 100000
set_option linter.unusedSimpArgs false
open Go.RowKit

theorem Sp.left {u u' : World} {G G' : List Nat} (H : List Nat) (h : Sp u u' G G') : Sp u u' (G ++ H) (G' ++ H) :=
  ⟨h.k.more fun x hx => List.mem_append_left _ hx, fun y hy => by
    rcases List.mem_append.1 hy with e | e
    · rcases h.g y e with e1 | e1
      · exact .inl (List.mem_append_left _ e1)
      · exact .inr e1
    · exact .inl (List.mem_append_right _ e)⟩
theorem Sp.right {u u' : World} {H H' : List Nat} (G : List Nat) (h : Sp u u' H H') : Sp u u' (G ++ H) (G ++ H') :=
  ⟨h.k.more fun x hx => List.mem_append_right _ hx, fun y hy => by
    rcases List.mem_append.1 hy with e | e
    · exact .inl (List.mem_append_left _ e)
    · rcases h.g y e with e1 | e1
      · exact .inl (List.mem_append_right _ e1)
      · exact .inr e1⟩
structure W2 (W u : World) (G : List Nat) (qb : Nat) (q : List Qn) (H : List Nat) (rb : Nat) (r : List Qn) : Prop where
  l : Wq W u G qb q
  r : Wq W u H rb r
  ne : ∀ y ∈ G, y ∉ H
section
variable {W u u' : World} {G G' H H' : List Nat} {qb rb : Nat} {q r q' r' : List Qn}
theorem W2.left (h : W2 W u G qb q H rb r) (s : Sp u u' G G') (k : Wq W u' G' qb q') : W2 W u' G' qb q' H rb r :=
  ⟨k, h.r.ke s.k (fun y hy hG => h.ne y hG hy) k.l, fun y hy hH => by
    rcases s.g y hy with e | e
    · exact h.ne y e hH
    · have := h.r.hi y hH; omega⟩
theorem W2.right (h : W2 W u G qb q H rb r) (s : Sp u u' H H') (k : Wq W u' H' rb r') : W2 W u' G qb q H' rb r' :=
  ⟨h.l.ke s.k (fun y hy hH => h.ne y hy hH) k.l, k, fun y hy hH => by
    rcases s.g y hH with e | e
    · exact h.ne y hy e
    · have := h.l.hi y hy; omega⟩
theorem W2.on (h : W2 W u G qb q H rb r) (hb : Below u.heap.size u u') : W2 W u' G qb q H rb r := ⟨h.l.on hb, h.r.on hb, h.ne⟩
theorem W2.hi (h : W2 W u G qb q H rb r) : ∀ y ∈ G ++ H, y < u.heap.size := fun y hy => by
  rcases List.mem_append.1 hy with e | e
  · exact h.l.hi y e
  · exact h.r.hi y e
/-- A block of the law's own turned. -/
theorem W2.set (h : W2 W u G qb q H rb r) {k : Nat} {t : TypeId} {cs : Array Value} (hk : Bz u (G ++ H) k t cs) (hW : W.heap.size ≤ k) (i : Nat) (v : Value) : W2 W (u.setCell ⟨k, i, none⟩ v) G qb q H rb r ∧ Bz (u.setCell ⟨k, i, none⟩ v) (G ++ H) k t (cs.setIfInBounds i v) := by
  have hs : Ke [k] u (u.setCell ⟨k, i, none⟩ v) := (Ke.refl _ _).set (p := ⟨k, i, none⟩) (by simp) _
  have hb : Below W.heap.size W (u.setCell ⟨k, i, none⟩ v) := h.l.l.trans (hs.below h.l.l.size (by simpa using hW))
  exact ⟨⟨h.l.ke hs (fun y hy hx => hk.n (by rw [← List.mem_singleton.1 hx]; exact List.mem_append_left _ hy)) hb, h.r.ke hs (fun y hy hx => hk.n (by rw [← List.mem_singleton.1 hx]; exact List.mem_append_right _ hy)) hb, h.ne⟩, hk.b.set i v, hk.n⟩
end
/-- QueueApart's numbers. -/
theorem ap_id (x : Int) : ∃ d : Int, 2 * x.tmod 1000 = d ∧ -2000 ≤ d ∧ d ≤ 2000 ∧ d % 2 = 0 := by
  refine ⟨_, rfl, ?_⟩
  have h1 := Int.tmod_lt_of_pos x (show (0 : Int) < 1000 by omega)
  have h2 : -1000 < x.tmod 1000 := by
    have := Int.lt_tmod_of_pos x (show (0 : Int) < 1000 by omega)
    omega
  omega
theorem wf_small {d : Int} (h1 : -3000 ≤ d) (h2 : d ≤ 3000) : WfI d := by
  have hmin : IntKind.i64.min = -9223372036854775808 := by decide
  have hmax : IntKind.i64.max = 9223372036854775807 := by decide
  show (Lit.int .i64 d).wf = true
  simp only [Lit.wf, Bool.and_eq_true, decide_eq_true_eq, hmin, hmax]
  omega
theorem wrap_small {d : Int} (h1 : -3000 ≤ d) (h2 : d ≤ 3000) : IntKind.i64.wrap d = d := by rw [IntKind.wrap_i64]; omega
end Go.Proofs.Ytikkiifcnjiegaa

/- Rows of structs that the call owns; append of rows of structs. -/
namespace Go.Proofs.Ytikkiifcnjiegaa
set_option linter.unusedVariables false
set_option maxRecDepth 100000
set_option linter.unusedSimpArgs false
open Go.RowKit

def fl {β : Type} (f : β → Array Value) (l : List β) : List Value := l.flatMap fun x => (f x).toList
theorem fl_app {β : Type} (f : β → Array Value) (a b : List β) : fl f (a ++ b) = fl f a ++ fl f b := by simp [fl]
theorem fl_length {β : Type} {k : Nat} {f : β → Array Value} (hf : ∀ x, (f x).size = k) : ∀ l : List β, (fl f l).length = l.length * k
  | [] => by simp [fl]
  | x :: l => by
    have := fl_length hf l
    simp only [fl, List.flatMap_cons, List.length_append, Array.length_toList, hf, List.length_cons] at this ⊢
    rw [this, Nat.add_mul, Nat.one_mul, Nat.add_comm]
theorem fl_at {β : Type} {k : Nat} {f : β → Array Value} (hf : ∀ x, (f x).size = k) : ∀ (l : List β) (i : Nat) (h : i < l.length) (j : Nat), j < k → (fl f l)[i * k + j]? = (f l[i])[j]?
  | [], i, h, _, _ => by simp at h
  | x :: l, 0, h, j, hj => by
    simp only [fl, List.flatMap_cons, Nat.zero_mul, Nat.zero_add, List.getElem_cons_zero]
    rw [List.getElem?_append_left (by rw [Array.length_toList, hf]; exact hj), Array.getElem?_toList]
  | x :: l, i + 1, h, j, hj => by
    have := fl_at hf l i (by simpa using h) j hj
    simp only [fl, List.flatMap_cons, List.getElem_cons_succ] at this ⊢
    rw [List.getElem?_append_right (by rw [Array.length_toList, hf, Nat.add_mul]; omega), Array.length_toList, hf, Nat.add_mul, Nat.one_mul, ← this]
    congr 1
    omega
theorem fl_mem {β : Type} {f : β → Array Value} {l : List β} {u : Value} (h : u ∈ fl f l) : ∃ x ∈ l, u ∈ f x := by
  obtain ⟨x, hx, hu⟩ := List.mem_flatMap.1 h
  exact ⟨x, hx, by simpa using hu⟩
theorem fl_all {β : Type} {k : Nat} {f : β → Array Value} (hf : ∀ x, (f x).size = k) (hk : 0 < k) (l : List β) (q : Nat) (u : Value) (h : (fl f l)[q]? = some u) : ∃ i j, ∃ hi : i < l.length, j < k ∧ q = i * k + j ∧ (f l[i])[j]? = some u := by
  have hq : q < l.length * k := by
    have := (List.getElem?_eq_some_iff.1 h).1
    rwa [fl_length hf] at this
  have h1 : q / k < l.length := (Nat.div_lt_iff_lt_mul hk).2 hq
  have h2 := Nat.mod_lt q hk
  have h3 : q = q / k * k + q % k := by rw [Nat.mul_comm]; exact (Nat.div_add_mod q k).symm
  refine ⟨q / k, q % k, h1, h2, h3, ?_⟩
  rw [← fl_at hf l (q / k) h1 (q % k) h2, ← h3, h]

/-- How rows of a type lie. -/
structure Ro {β : Type} (P : Program) (t e : TypeId) (k by_ : Nat) (f : β → Array Value) : Prop where
  ht : P.underlying t = some (.slice e)
  hi : ∃ i z, P.info? e = some i ∧ i.zero = some z ∧ i.size = k ∧ i.bytes = by_ ∧ z.cells.size = k
  k0 : 0 < k
  fs : ∀ x, (f x).size = k
  one : ∀ x, ∀ u ∈ f x, u.oneCell' = true
  few : by_ ≤ 128

/-- The slice at A, of capacity c, owns the rows l: it lies at block B or behind it. -/
def Ow {β : Type} (e : TypeId) (k : Nat) (f : β → Array Value) (w : World) (B : Nat) (A : Option Addr) (c : Nat) (l : List β) : Prop := w.ownsRow B e k (.slice A l.length c) l.length (fl f l)

section
variable {β : Type} {P : Program} {t e : TypeId} {k by_ : Nat} {f : β → Array Value} {w w' : World} {B : Nat} {A : Option Addr} {c : Nat} {l : List β}

theorem Ow.nil (w : World) (B : Nat) : Ow e k f w B none 0 [] := World.ownsRow_nil w B e k
theorem Ow.rw_ (hf : ∀ x, (f x).size = k) (h : Ow e k f w B A c l) : Rw k f w A l := by
  by_cases h0 : l = []
  · exact .inl h0
  · have hp : 0 < l.length := List.length_pos_iff.2 h0
    obtain ⟨g, cap, hv, hb, hl⟩ := World.ownsRow.form h hp
    injection hv with h1 _ _
    subst h1
    refine .inr ⟨g, 0, rfl, hl, fun i hi j hj => ?_⟩
    have hlt : i * k + j < l.length * k := by
      have h2 : (i + 1) * k ≤ l.length * k := Nat.mul_le_mul_right k (by omega)
      rw [Nat.add_mul, Nat.one_mul] at h2
      omega
    have e1 := World.ownsRow.cellAt h (i * k + j) hlt
    rw [Nat.zero_add, e1, fl_at hf l i hi j hj]
theorem Ow.fit (h : Ow e k f w B A c l) : Fit A l.length c := by
  rcases h.2 with ⟨hv, h0⟩ | ⟨g, cap, cur, hv, _, _, hn, hm, _⟩
  · injection hv with h1 _ h3
    exact ⟨by omega, by omega, fun _ => ⟨h0, h3⟩⟩
  · injection hv with h1 _ h3
    unfold maxLen at hm
    exact ⟨by omega, by omega, fun e => by rw [e] at h1; cases h1⟩
/-- What the call owns stays owned where its block stays. -/
theorem Ow.keep (h : Ow e k f w B A c l) (hk : ∀ g cs, B ≤ g → Bk w g e cs → Bk w' g e cs) : Ow e k f w' B A c l := by
  refine ⟨h.1, ?_⟩
  rcases h.2 with hn | ⟨g, cap, cur, hv, hg, hh, r⟩
  · exact .inl hn
  · exact .inr ⟨g, cap, cur, hv, hg, hk g cur hg hh, r⟩
theorem Ow.set (h : Ow e k f w B A c l) {p : Addr} (hp : p.block < B) (v : Value) : Ow e k f (w.setCell p v) B A c l := h.keep fun g cs hg hh => hh.far (by omega) v
theorem Ow.on (h : Ow e k f w B A c l) (hb : Below w.heap.size w w') : Ow e k f w' B A c l := h.keep fun g cs _ hh => hh.below hb hh.lt
/-- Its block. -/
theorem Ow.block (h : Ow e k f w B A c l) (n : Nat) (g : Nat) (hn : (Value.slice A n c).ownBlock = some g) : B ≤ g ∧ g < w.heap.size ∧ ∃ cs, Bk w g e cs := by
  rcases h.2 with ⟨hv, _⟩ | ⟨g', cap, cur, hv, hb, hh, _⟩
  · injection hv with h1
    subst h1
    cases hn
  · injection hv with h1
    subst h1
    simp [Value.ownBlock] at hn
    subst hn
    exact ⟨hb, lt_of_block hh, cur, hh⟩
theorem Rw.bk {g : Nat} {t' : TypeId} {x : β} (h : Bk w g t' (f x)) : Rw k f w (some ⟨g, 0, none⟩) [x] :=
  .inr ⟨g, 0, rfl, h.lt, fun i hi j _ => by
    have hi0 : i = 0 := by simp at hi; omega
    subst hi0
    rw [h.cell]; simp⟩

/-- append of rows, as one operation. -/
theorem op_rows (R : Ro P t e k by_ f) {o : Oper} {a : Act} {K : Act → World → Prop} {Q : Exit → Act → World → Prop} (s x : Operand)
    (ho : o.op = .call { callee := .builtin .append, args := #[s, x], argTypes := #[t, t] }) (n : Nat) (hs : a.eval s = .slice A n c) (hn : l.length = n) (hown : Ow e k f w B A c l)
    (M : List β) (A' : Option Addr) (m c' : Nat) (hx : a.eval x = .slice A' m c') (hm : M.length = m) (hnil : A' = none → m = 0 ∧ c' = 0) (hR : Rw k f w A' M)
    (hlen : n + m ≤ 1099511627776) (hbase : B ≤ w.heap.size) (s' : Nat) (hsum : n + m = s')
    (h : ∀ A2 c2 w', Ow e k f w' B A2 c2 (l ++ M) → w.grownBy w' (Value.slice A n c).ownBlock → Below B w w' → K (a.put o.dst (.slice A2 s' c2)) w') : o.wp P a w K Q := by
  obtain ⟨i, z, hi1, hz, hsz, hby, hzc⟩ := R.hi
  subst hn; subst hm; subst hsum
  cases A' with
  | none =>
    obtain ⟨h0, rfl⟩ := hnil rfl
    have hk : M = [] := List.eq_nil_of_length_eq_zero h0
    subst hk
    have hrun := run_append_owned_none (P := P) (w := w) B t o.type e i k R.ht hi1 _ l.length (fl f l) hown
    unfold Oper.wp
    simp [execOp, ho, resolve, invoke, builtin, hs, hx, hrun, Result.andThen]
    have := h A c w (by simpa using hown) (World.grownBy.refl w _) (Below.refl B w)
    exact (by simpa using this : K (a.put o.dst (Value.slice A l.length c)) w)
  | some ad =>
    have hb8 : (l.length + M.length) * by_ ≤ 140737488355328 := Nat.le_trans (Nat.mul_le_mul hlen R.few) (by decide)
    refine wp_append_own w s x t ho B e i z k by_ R.ht hi1 hz hsz hby hzc R.k0 _ l.length (fl f l) hs hown ad M.length c' (fl f M) hx (fl_length R.fs M) ?_ ?_ (by unfold maxLen; omega) hb8 hbase ?_
    · intro q u hu
      obtain ⟨i', j, hi', hj, rfl, hv⟩ := fl_all R.fs R.k0 M q u hu
      rcases hR with h0 | ⟨b, o', e1, _, hc⟩
      · subst h0; simp at hi'
      · injection e1 with e1
        subst e1
        rw [add_plain, ← Nat.add_assoc, hc i' hi' j hj, hv]
    · intro u hu
      obtain ⟨y, _, hy⟩ := fl_mem hu
      exact R.one y u hy
    · intro v' w' hown' hg _
      have hbel : Below B w w' := (Below.refl B w).grown hg hbase (fun k hk => (World.ownsRow.lt hown k hk).1)
      have hlen' : (l ++ M).length = l.length + M.length := List.length_append
      rw [← fl_app] at hown'
      rw [← hlen'] at hown'
      by_cases h0 : l ++ M = []
      · rw [h0] at hown'
        rcases hown'.2 with ⟨rfl, _⟩ | ⟨g, cap, cur, rfl, _, r⟩
        · have := h none 0 w' (by rw [h0]; exact Ow.nil w' B) hg hbel
          rwa [← hlen', h0] at this
        · have := h (some ⟨g, 0, none⟩) cap w' (by rw [h0]; exact hown') hg hbel
          rwa [← hlen', h0] at this
      · have hp : 0 < (l ++ M).length := List.length_pos_iff.2 h0
        obtain ⟨g, cap, rfl, _, _⟩ := World.ownsRow.form hown' hp
        have := h (some ⟨g, 0, none⟩) cap w' hown' hg hbel
        rwa [← hlen'] at this
/-- The same, in a region that draws nothing. -/
theorem wp_rows (R : Ro P t e k by_ f) {ops : Array Oper} {rest : List Oper} {o : Oper} {a : Act} {Q : Exit → Act → World → Prop} (hw : Region.wanted o (yielded ops a.tmps) = true) (s x : Operand)
    (ho : o.op = .call { callee := .builtin .append, args := #[s, x], argTypes := #[t, t] }) (n : Nat) (hs : a.eval s = .slice A n c) (hn : l.length = n) (hown : Ow e k f w B A c l)
    (M : List β) (A' : Option Addr) (m c' : Nat) (hx : a.eval x = .slice A' m c') (hm : M.length = m) (hnil : A' = none → m = 0 ∧ c' = 0) (hR : Rw k f w A' M)
    (hlen : n + m ≤ 1099511627776) (hbase : B ≤ w.heap.size) (s' : Nat) (hsum : n + m = s')
    (h : ∀ A2 c2 w', Ow e k f w' B A2 c2 (l ++ M) → w.grownBy w' (Value.slice A n c).ownBlock → Below B w w' → wpList P ops Q rest (a.put o.dst (.slice A2 s' c2)) w') : wpList P ops Q (o :: rest) a w :=
  wpList_wanted hw fun K hK => op_rows R s x ho n hs hn hown M A' m c' hx hm hnil hR hlen hbase s' hsum (fun A2 c2 w' k1 k2 k3 => hK _ _ (h A2 c2 w' k1 k2 k3))
theorem wp_rows0 (R : Ro P t e k by_ f) {ops : Array Oper} {rest : List Oper} {o : Oper} {a : Act} {Q : Exit → Act → World → Prop} (hgd : o.guard = none) (s x : Operand)
    (ho : o.op = .call { callee := .builtin .append, args := #[s, x], argTypes := #[t, t] }) (n : Nat) (hs : a.eval s = .slice A n c) (hn : l.length = n) (hown : Ow e k f w B A c l)
    (M : List β) (A' : Option Addr) (m c' : Nat) (hx : a.eval x = .slice A' m c') (hm : M.length = m) (hnil : A' = none → m = 0 ∧ c' = 0) (hR : Rw k f w A' M)
    (hlen : n + m ≤ 1099511627776) (hbase : B ≤ w.heap.size) (s' : Nat) (hsum : n + m = s')
    (h : ∀ A2 c2 w', Ow e k f w' B A2 c2 (l ++ M) → w.grownBy w' (Value.slice A n c).ownBlock → Below B w w' → wpList P ops Q rest (a.put o.dst (.slice A2 s' c2)) w') : wpList P ops Q (o :: rest) a w :=
  wpList_plain hgd fun K hK => op_rows R s x ho n hs hn hown M A' m c' hx hm hnil hR hlen hbase s' hsum (fun A2 c2 w' k1 k2 k3 => hK _ _ (h A2 c2 w' k1 k2 k3))
/-- An empty row of its own. -/
theorem Ow.empty (w : World) (B : Nat) (hB : B ≤ w.heap.size) : Ow e k f (w.alloc (.cells #[] e)) B (some ⟨w.heap.size, 0, none⟩) 0 ([] : List β) := by
  have := World.ownsRow_lit (base := B) (e := e) (size := k) w #[] 0 hB (by unfold maxLen; omega) (by simp)
  exact this
end

end Go.Proofs.Ytikkiifcnjiegaa

/- append of one row, with the place of the new slice. Nothing of the program is named here. -/
namespace Go.Proofs.Ytikkiifcnjiegaa
set_option linter.unusedVariables false
set_option maxRecDepth 100000
set_option linter.unusedSimpArgs false
open Go.RowKit

section
variable {β : Type} {P : Program} {t e : TypeId} {k by_ : Nat} {f : β → Array Value} {w w' : World} {B : Nat} {A : Option Addr} {c : Nat} {l : List β}
/-- append of one row: where the new slice lies. -/
theorem wp_rows_at (R : Ro P t e k by_ f) {ops : Array Oper} {rest : List Oper} {o : Oper} {a : Act} {Q : Exit → Act → World → Prop} (hgd : o.guard = none) (s x : Operand)
    (ho : o.op = .call { callee := .builtin .append, args := #[s, x], argTypes := #[t, t] }) (n : Nat) (hs : a.eval s = .slice A n c) (hn : l.length = n) (hown : Ow e k f w B A c l)
    (y : β) (b c' : Nat) (hx : a.eval x = .slice (some ⟨b, 0, none⟩) 1 c') (hR : Rw k f w (some ⟨b, 0, none⟩) [y])
    (hlen : n + 1 ≤ 1099511627776) (hbase : B ≤ w.heap.size) (s' : Nat) (hsum : n + 1 = s')
    (h : ∀ g2 c2 w', Ow e k f w' B (some ⟨g2, 0, none⟩) c2 (l ++ [y]) → w.grownBy w' (Value.slice A n c).ownBlock → Below B w w' → ((Value.slice A n c).ownBlock = some g2 ∨ g2 = w.heap.size) → wpList P ops Q rest (a.put o.dst (.slice (some ⟨g2, 0, none⟩) s' c2)) w') : wpList P ops Q (o :: rest) a w := by
  obtain ⟨i, z, hi1, hz, hsz, hby, hzc⟩ := R.hi
  subst hn; subst hsum
  have hb8 : (l.length + 1) * by_ ≤ 140737488355328 := Nat.le_trans (Nat.mul_le_mul hlen R.few) (by decide)
  refine wpList_append_own_at w hgd s x t ho B e i z k by_ R.ht hi1 hz hsz hby hzc R.k0 _ l.length (fl f l) hs hown ⟨b, 0, none⟩ 1 c' (fl f [y]) hx (fl_length R.fs [y]) ?_ ?_ (by unfold maxLen; omega) hb8 hbase ?_
  · intro q u hu
    obtain ⟨i', j, hi', hj, rfl, hv⟩ := fl_all R.fs R.k0 [y] q u hu
    rcases hR with h0 | ⟨b2, o', e1, _, hc⟩
    · cases h0
    · injection e1 with e1
      rw [e1, add_plain, ← Nat.add_assoc, hc i' hi' j hj, hv]
  · intro u hu
    obtain ⟨y2, _, hy⟩ := fl_mem hu
    exact R.one y2 u hy
  · intro v' w' hown' hg _ hat
    have hbel : Below B w w' := (Below.refl B w).grown hg hbase (fun k hk => (World.ownsRow.lt hown k hk).1)
    have hlen' : (l ++ [y]).length = l.length + 1 := List.length_append
    rw [← fl_app] at hown'
    rw [← hlen'] at hown'
    obtain ⟨g, cap, rfl, _, _⟩ := World.ownsRow.form hown' (by rw [hlen']; omega)
    have := h g cap w' hown' hg hbel (by
      rcases hat with e1 | e1
      · left; rw [← e1]; rfl
      · right; simpa [Value.ownBlock] using e1)
    rwa [← hlen'] at this
theorem gb_set (w : World) (p : Addr) (v : Value) : w.grownBy (w.setCell p v) (some p.block) := ⟨rfl, rfl, rfl, by simp [World.setCell], fun k hk hn => Below.heap_setCell _ _ _ _ (fun e => hn (by rw [e]))⟩
theorem gb_after {a b : World} {row : Option Nat} (h : a.grownBy b row) {p : Addr} (hp : a.heap.size ≤ p.block) (v : Value) : a.grownBy (b.setCell p v) row :=
  ⟨h.os, h.tape, h.output, Nat.le_trans h.size (by simp [World.setCell]), fun k hk hn => (Below.heap_setCell _ _ _ _ (fun e => by omega)).trans (h.block k hk hn)⟩
theorem gb_from {a b c : World} {row : Option Nat} (h : Below a.heap.size a b) (k : b.grownBy c row) : a.grownBy c row :=
  ⟨k.os.trans h.os, k.tape.trans h.tape, k.output.trans h.output, Nat.le_trans h.size k.size, fun i hi hne => (k.block i (Nat.lt_of_lt_of_le hi h.size) hne).trans (h.block i hi)⟩
theorem Ow.apart {g : Nat} (h : Ow e k f w B (some ⟨g, 0, none⟩) c l) {p : Addr} (hp : g ≠ p.block) (v : Value) : Ow e k f (w.setCell p v) B (some ⟨g, 0, none⟩) c l :=
  World.ownsRow.kept h (gb_set w p v) (.inr (by simp [Value.ownBlock]; exact hp))
end

end Go.Proofs.Ytikkiifcnjiegaa

/- The document's own queue: its memory; Where, List, Put, Drop, Take, New: their contracts. -/
namespace Go.Proofs.Ytikkiifcnjiegaa
set_option linter.unusedVariables false
set_option maxRecDepth 100000
set_option linter.unusedSimpArgs false
open Go.RowKit

abbrev oqc (x : Qn) : Array Value := #[.string x.nm, .int .i64 x.id]
theorem roO : Ro Try.prog 39 58 2 24 oqc := ⟨Try.underlying39, (by
  obtain ⟨i, h1, h2, h3, h4⟩ := info_parts (show (Try.prog.info? 58).map (fun i => (i.zero, i.size, i.bytes)) = some (some (.agg #[.string ByteArray.empty, .int .i64 0]), 2, 24) by kernel_rfl)
  exact ⟨i, _, h1, h2, h3, h4, rfl⟩), by omega, fun _ => rfl, (fun x u hu => by simp at hu; rcases hu with rfl | rfl <;> rfl), by omega⟩
/-- At db lies the document's queue, in the blocks H. -/
structure Dq (W u : World) (H : List Nat) (db : Nat) (q : List Qn) : Prop where
  ex : ∃ A c, Bk u db 41 #[.slice A q.length c] ∧ Ow 58 2 oqc u W.heap.size A c q ∧ ∀ g, (Value.slice A q.length c).ownBlock = some g → g ∈ H
  db : db ∈ H
  l : Below W.heap.size W u
  lo : ∀ y ∈ H, W.heap.size ≤ y
  hi : ∀ y ∈ H, y < u.heap.size
section
variable {W u u' : World} {H H' : List Nat} {db : Nat} {q q' : List Qn}
theorem Dq.ke {L : List Nat} (h : Dq W u H db q) (k : Ke L u u') (hL : ∀ y ∈ H, y ∉ L) (hb : Below W.heap.size W u') : Dq W u' H db q := by
  obtain ⟨A, c, h1, h2, h3⟩ := h.ex
  refine ⟨⟨A, c, h1.ke k (hL _ h.db), ?_, h3⟩, h.db, hb, h.lo, fun y hy => Nat.lt_of_lt_of_le (h.hi y hy) k.size⟩
  refine ⟨h2.1, ?_⟩
  rcases h2.2 with hn | ⟨g, cap, cur, hv, hg, hh, r⟩
  · exact .inl hn
  · exact .inr ⟨g, cap, cur, hv, hg, (show Bk u g _ _ from hh).ke k (hL g (h3 g (by rw [hv]; rfl))), r⟩
theorem Dq.on (h : Dq W u H db q) (hb : Below u.heap.size u u') : Dq W u' H db q := h.ke (Ke.of hb) (fun _ _ hx => by cases hx) (h.l.trans (hb.mono h.l.size))
/-- One who waits. -/
theorem row2 {w : World} {A : Option Addr} {l : List Qn} (h : Rw 2 oqc w A l) (i : Nat) (hi : i < l.length) :
    ∃ b o x, A = some ⟨b, o, none⟩ ∧ l[i]? = some x ∧ ∀ u, Below w.heap.size w u → u.cell? ⟨b, o + i * 2, none⟩ = some (.string x.nm) ∧ u.cell? ⟨b, o + i * 2 + 1, none⟩ = some (.int .i64 x.id) := by
  obtain ⟨b, o, x, h1, h2, h3⟩ := Rw.at_ h i hi
  exact ⟨b, o, x, h1, h2, fun u hb => ⟨h3 u hb 0 (by omega), h3 u hb 1 (by omega)⟩⟩
theorem wh_at {q : List Qn} {id : Int} {i : Nat} {x : Qn} (h : q[i]? = some x) (h0 : ∀ y ∈ q.take i, (y.id == id) = false) (hx : (x.id == id) = true) : whQ q id = some x := by
  unfold whQ
  obtain ⟨hi, he⟩ := List.getElem?_eq_some_iff.1 h
  have e : q = q.take i ++ x :: q.drop (i + 1) := by
    rw [← he, ← List.drop_eq_getElem_cons hi, List.take_append_drop]
  rw [e, List.find?_append]
  have h1 : (q.take i).find? (fun x => x.id == id) = none := List.find?_eq_none.2 fun y hy => by rw [h0 y hy]; simp
  rw [h1, List.find?_cons, hx]
  rfl
set_option maxRecDepth 100000 in
set_option maxHeartbeats 2000000 in
theorem d_where (h : Dq W u H db q) (id : Int) (n : ByteArray) (is : Bool) (hn : whN q id = n ∧ (whQ q id).isSome = is) (hq : q.length ≤ 64) :
    Calls Try.prog 20 #[.pointer (some ⟨db, 0, none⟩), .int .i64 id] u fun e u' => e = .returned (.tuple #[.string n, .bool is]) ∧ u' = u := by
  obtain ⟨A, c, h1, h2, _⟩ := h.ex
  have HR := Lib.hid (Ow.rw_ (f := oqc) (k := 2) (fun _ => rfl) h2)
  have c0 : u.cell? ⟨db, 0, none⟩ = some (.slice A q.length c) := h1.cell 0
  obtain ⟨m, hm⟩ : ∃ m, q.length = m := ⟨_, rfl⟩
  have HM := Lib.hid hm
  have HW := Lib.hid hn
  rw [hm] at c0 hq
  clear h h1 h2 hm hn
  go_enter Try.func20, Try.ntmps20
  go_wp2
  go_loopw [6] (fun v6 wr => ∃ i : Nat, i ≤ m ∧ v6 = .int .i64 (i : Int) ∧ Hid (∀ y ∈ q.take i, (y.id == id) = false) ∧ wr = u) (fun v6 _ => m - (intOf v6).toNat)
  case atStart => exact ⟨0, by omega, rfl, Lib.hid (fun y hy => by simp at hy), by first | rfl | trivial⟩
  case round =>
    obtain ⟨i, hi, rfl, H0, hwr⟩ := hrel
    subst hwr
    by_cases hi1 : i < m
    · have hi2 : (i : Int) < (m : Int) := by omega
      obtain ⟨b, o, x, rfl, hx, hc⟩ := row2 HR.out i (by rw [HM.out]; exact hi1)
      obtain ⟨x0, x1⟩ := hc _ (Below.refl _ _)
      have HX := Lib.hid hx
      obtain ⟨e, he⟩ : ∃ e, (x.id == id) = e := ⟨_, rfl⟩
      have HE := Lib.hid he
      clear hc hx
      cases e with
      | true =>
        have HF := Lib.hid (wh_at HX.out H0.out HE.out)
        go_wp2
        go_ret2
        exact ⟨by rw [← HW.out.1, ← HW.out.2]; unfold whN; rw [HF.out]; rfl, rfl⟩
      | false =>
        go_wp2
        go_roundw
        case rel =>
          refine ⟨i + 1, by omega, by go_num, Lib.hid (fun y hy => ?_), by first | rfl | trivial⟩
          rw [List.take_add_one, HX.out, List.mem_append] at hy
          rcases hy with hy | hy
          · exact H0.out y hy
          · simp at hy; rw [hy]; exact HE.out
        case measure => simp [intOf]; omega
    · have hi2 : ¬ (i : Int) < (m : Int) := by omega
      have HF := Lib.hid (show whQ q id = none from List.find?_eq_none.2 fun y hy => by
        have := H0.out y (by rw [List.take_of_length_le (by rw [HM.out]; omega)]; exact hy)
        rw [this]; simp)
      go_wp2
      go_ret2
      exact ⟨by rw [← HW.out.1, ← HW.out.2]; unfold whN; rw [HF.out]; rfl, rfl⟩
theorem li_next {q : List Qn} {s : ByteArray} {i : Nat} {x : Qn} (h : q[i]? = some x) : liQ (q.take (i + 1)) s = if nmQ x.nm s = true then liQ (q.take i) s ++ [x.id] else liQ (q.take i) s := by
  rw [List.take_add_one, h, show (some x).toList = [x] from rfl]
  exact li_app _ _ _ _
set_option maxRecDepth 100000 in
set_option maxHeartbeats 4000000 in
theorem d_list (h : Dq W u H db q) (s : ByteArray) (l : List Int) (n : Nat) (hl : liQ q s = l ∧ l.length = n) (hq : q.length ≤ 64) :
    Calls Try.prog 24 #[.pointer (some ⟨db, 0, none⟩), .string s] u fun e u' => ∃ A c, e = .returned (.slice A n c) ∧ OI u' u.heap.size A c l ∧ Below u.heap.size u u' := by
  obtain ⟨A, c, h1, h2, _⟩ := h.ex
  have HR := Lib.hid (Ow.rw_ (f := oqc) (k := 2) (fun _ => rfl) h2)
  have HC := Lib.hid (fun w (hb : Below u.heap.size u w) => show w.cell? ⟨db, 0, none⟩ = some (.slice A q.length c) from (h1.below hb h1.lt).cell 0)
  obtain ⟨m, hm⟩ : ∃ m, q.length = m := ⟨_, rfl⟩
  have HM := Lib.hid hm
  have HL := Lib.hid hl
  simp only [hm] at HC
  rw [hm] at hq
  have c0 := HC.out u (Below.refl _ _)
  clear h h1 h2 hm hl
  go_enter Try.func24, Try.ntmps24
  go_wp2
  go_loopw [5, 6] (fun v5 v6 wr => ∃ (i k : Nat) (A2 : Option Addr) (c2 : Nat), i ≤ m ∧ k ≤ i ∧ v5 = .slice A2 k c2 ∧ v6 = .int .i64 (i : Int) ∧ Hid ((liQ (q.take i) s).length = k) ∧ Hid (OI wr u.heap.size A2 c2 (liQ (q.take i) s)) ∧ Hid (Below u.heap.size u wr)) (fun v5 v6 _ => m - (intOf v6).toNat)
  case atStart => exact ⟨0, 0, none, 0, by omega, by omega, rfl, rfl, Lib.hid rfl, Lib.hid (OI.nil _ _), Lib.hid (Below.refl _ _)⟩
  case round =>
    obtain ⟨i, k, A2, c2, hi, hk, rfl, rfl, HK, HO, HB⟩ := hrel
    have c1 := HC.out wr HB.out
    by_cases hi1 : i < m
    · have hi2 : (i : Int) < (m : Int) := by omega
      obtain ⟨b, o, x, rfl, hx, hc⟩ := row2 HR.out i (by rw [HM.out]; exact hi1)
      obtain ⟨x0, x1⟩ := hc wr HB.out
      have HT := Lib.hid (li_next (s := s) hx)
      obtain ⟨e, he⟩ : ∃ e, (x.nm.toList == s.toList) = e := ⟨_, rfl⟩
      have HE := Lib.hid (show nmQ x.nm s = e from he)
      clear hx hc
      cases e with
      | true =>
        have HQ := Lib.hid (show liQ (q.take (i + 1)) s = liQ (q.take i) s ++ [x.id] by rw [HT.out, HE.out]; rfl)
        have HO3 := Lib.hid (show OI (wr.alloc (.cells #[.int .i64 x.id] 3)) u.heap.size A2 c2 (liQ (q.take i) s) from HO.out.keep fun g cs _ hh => hh.alloc _)
        have HB3 := Lib.hid (HB.out.alloc HB.out.size (.cells #[.int .i64 x.id] 3))
        have HC3 := Lib.hid (show (wr.alloc (.cells #[.int .i64 x.id] 3)).cell? ⟨wr.heap.size, 0, none⟩ = some (.int .i64 x.id) from (Bk.new wr 3 #[.int .i64 x.id]).cell 0)
        go_wp2_with (at_builtin; refine wp_app_int rfl (.tmp 26) (.tmp 35) rfl u.heap.size (liQ (q.take i) s) A2 k c2 rfl HK.out HO3.out x.id wr.heap.size rfl HC3.out (by omega) HB3.out.size (k + 1) rfl ?_; intro A4 c4 w4 ho hb4; have HO4 := Lib.hid ho; have HB4 := Lib.hid (HB3.out.trans hb4); clear ho hb4)
        go_roundw
        case rel => exact ⟨i + 1, k + 1, A4, c4, by omega, by omega, by first | rfl | go_num, by go_num, Lib.hid (by rw [HQ.out, List.length_append, HK.out]; rfl), Lib.hid (by rw [HQ.out]; exact HO4.out), HB4⟩
        case measure => simp [intOf]; omega
      | false =>
        have HQ := Lib.hid (show liQ (q.take (i + 1)) s = liQ (q.take i) s by rw [HT.out, HE.out]; rfl)
        go_wp2
        go_roundw
        case rel => exact ⟨i + 1, k, A2, c2, by omega, by omega, rfl, by go_num, Lib.hid (by rw [HQ.out]; exact HK.out), Lib.hid (by rw [HQ.out]; exact HO.out), HB⟩
        case measure => simp [intOf]; omega
    · have hi2 : ¬ (i : Int) < (m : Int) := by omega
      have HT := Lib.hid (show q.take i = q from List.take_of_length_le (by rw [HM.out]; omega))
      rw [HT.out, HL.out.1] at HK HO
      have hkn : k = n := by rw [← HK.out, HL.out.2]
      subst hkn
      go_wp2
      go_ret
      exact ⟨A2, c2, rfl, HO.out, HB.out⟩
end
end Go.Proofs.Ytikkiifcnjiegaa
