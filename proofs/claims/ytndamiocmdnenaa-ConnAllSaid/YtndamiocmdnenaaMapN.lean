/- Maps from numbers to things that lie whole in their entries, as lists; a range over one. -/
import Derived.Test.YtndamiocmdnenaaKe
import Derived.Maps.OwnSet
import Derived.Maps.RangeWalk
namespace Go.Proofs.Ytndamiocmdnenaa
set_option linter.unusedVariables false
set_option maxRecDepth 100000
set_option linter.unusedSimpArgs false
open Go.RowKit Go.Maps

theorem nlaw : Keyed Try.prog 3 := int_keyed Try.underlying3
abbrev WfN (x : Int) : Prop := (Lit.int .i64 x).wf = true
theorem wfN_of {x : Int} (h0 : 0 ≤ x) (h1 : x ≤ 9223372036854775807) : WfN x := by
  have hmin : IntKind.i64.min = -9223372036854775808 := by decide
  have hmax : IntKind.i64.max = 9223372036854775807 := by decide
  show (decide (IntKind.i64.min ≤ x) && decide (x ≤ IntKind.i64.max)) = true
  rw [hmin, hmax, Bool.and_eq_true, decide_eq_true_iff, decide_eq_true_iff]
  omega
theorem nkey {x : Int} (h : WfN x) : keyOf Try.prog 3 (.int .i64 x) = some (.int .i64 x) := keyOf_int_mk Try.underlying3 h
theorem nne {a b : Int} (h : a ≠ b) : (Lit.int .i64 a) ≠ (Lit.int .i64 b) := fun e => h (by injection e)
theorem nsame (z s : Int) : (Lit.int .i64 z).sameKey (.int .i64 s) = (z == s) := by
  show decide (IntKind.i64 = IntKind.i64 ∧ z = s) = (z == s)
  by_cases h : z = s <;> simp [h]
/-- A kind of such maps: its type's number, its elements', how they read. -/
structure Kin {α : Type} (T E : TypeId) (R : Value → Option (DataW Unit × List MemPlace)) (mk : α → Value) (en : α → DataW Unit) (z : α) : Prop where
  und : Try.prog.underlying T = some (.map 3 E)
  zero : ∀ w, (zeroValue E).run Try.prog w = .ok (mk z) w
  rd : ∀ x, R (mk x) = some (en x, [])
  inv : ∀ v x ps, R v = some (en x, ps) → v = mk x
  all : ∀ v y, R v = some y → ∃ x, v = mk x
/-- At mb lies the map of those numbers to those things. -/
structure Mn {α : Type} (R : Value → Option (DataW Unit × List MemPlace)) (en : α → DataW Unit) (u : World) (mb : Nat) (l : List (Int × α)) : Prop where
  few : l.length ≤ 1048576
  ids : l.Pairwise (fun x y => x.1 ≠ y.1)
  wf : ∀ x ∈ l, WfN x.1
  ex : ∃ D, u.ownsMap Try.prog 3 R mb l.length D ∧ Maps.size D = l.length ∧ (∀ k, (∃ x ∈ l, x.1 = k) ↔ Maps.has D (.int .i64 k) = true) ∧ ∀ x ∈ l, ∀ zd, D.atKey (.int .i64 x.1) zd = en x.2
theorem nturned_ke {w w' : World} {b : Nat} (h : w.mapTurned w' b) : Ke [b] w w' := by
  have g := h.grown
  exact ⟨g.os, g.tape, g.output, g.size, fun k hk hn => g.block k hk (fun e => hn (by injection e with e; simp [e]))⟩
theorem bk_mapN {w : World} {g g' : Nat} {t : TypeId} {cs : Array Value} (h : Bk w g t cs) (h' : ∃ es ck, w.heap[g']? = some (.map es ck)) : g ≠ g' := by
  rintro rfl
  obtain ⟨es, ck, h2⟩ := h'
  have h1 : w.heap[g]? = some (.cells cs t (0, 0)) := h
  rw [h1] at h2
  cases h2
section
variable {α : Type} {T E : TypeId} {R : Value → Option (DataW Unit × List MemPlace)} {mk : α → Value} {en : α → DataW Unit} {z : α} {u u' : World} {mb : Nat} {l m : List (Int × α)}
theorem Mn.perm (h : Mn R en u mb l) (p : l.Perm m) : Mn R en u mb m := by
  obtain ⟨h0, h1, h2, D, h3, h4, h5, h6⟩ := h
  have e := p.length_eq
  exact ⟨e ▸ h0, (p.pairwise_iff (fun {a b} (e : a.1 ≠ b.1) => e.symm)).1 h1, fun x hx => h2 x (p.mem_iff.2 hx), D, e ▸ h3, e ▸ h4, fun k => by rw [← h5 k]; exact ⟨fun ⟨x, hx, hk⟩ => ⟨x, p.mem_iff.2 hx, hk⟩, fun ⟨x, hx, hk⟩ => ⟨x, p.mem_iff.1 hx, hk⟩⟩, fun x hx => h6 x (p.mem_iff.2 hx)⟩
theorem Mn.lt (h : Mn R en u mb l) : mb < u.heap.size := by
  obtain ⟨_, _, _, D, h3, _⟩ := h
  exact h3.lt
theorem Mn.block (h : Mn R en u mb l) : ∃ es ck, u.heap[mb]? = some (.map es ck) := by
  obtain ⟨_, _, _, D, ⟨es, clock, hb, _⟩, _⟩ := h
  exact ⟨es, clock, hb⟩
theorem Mn.ke {L : List Nat} (h : Mn R en u mb l) (k : Ke L u u') (hm : mb ∉ L) : Mn R en u' mb l := by
  obtain ⟨h0, h1, h2, D, ⟨es, clock, hb, r⟩, h4⟩ := h
  exact ⟨h0, h1, h2, D, ⟨es, clock, (k.block mb (lt_of_block hb) hm).trans hb, r⟩, h4⟩
theorem Mn.hit (h : Mn R en u mb l) (K : Kin T E R mk en z) {k : Int} {y : α} (hx : (k, y) ∈ l) :
    (Instr.lookup T (.map (some mb)) (.int .i64 k) true).run Try.prog u = .ok (.tuple #[mk y, .bool true]) u := by
  obtain ⟨h0, h1, h2, D, h3, h4, h5, h6⟩ := h
  obtain ⟨v, ps, hr, hv⟩ := h3.look_ok nlaw K.und (K.zero u) (K.rd z) (nkey (h2 _ hx))
  rw [h6 _ hx] at hv
  have e := K.inv _ _ _ hv
  subst e
  rw [hr, (h5 k).1 ⟨_, hx, rfl⟩]
theorem Mn.miss (h : Mn R en u mb l) (K : Kin T E R mk en z) {k : Int} (hk : WfN k) (hn : ∀ x ∈ l, x.1 ≠ k) :
    (Instr.lookup T (.map (some mb)) (.int .i64 k) true).run Try.prog u = .ok (.tuple #[mk z, .bool false]) u := by
  obtain ⟨h0, h1, h2, D, h3, h4, h5, h6⟩ := h
  obtain ⟨v, ps, hr, hv⟩ := h3.look_ok nlaw K.und (K.zero u) (K.rd z) (nkey hk)
  have hf : Maps.has D (.int .i64 k) = false := by
    cases hh : Maps.has D (.int .i64 k)
    · rfl
    · obtain ⟨x, hx, e⟩ := (h5 k).2 hh
      exact absurd e (hn x hx)
  rw [atKey_of_not_has hf] at hv
  have e := K.inv _ _ _ hv
  subst e
  rw [hr, hf]
theorem Mn.len (h : Mn R en u mb l) (K : Kin T E R mk en z) (ty : TypeId) : (Builtin.len_ #[T] ty #[.map (some mb)]).run Try.prog u = .ok (.int .i64 (l.length : Int)) u := by
  obtain ⟨h0, h1, h2, D, h3, h4, h5, h6⟩ := h
  rw [h3.len K.und ty, h4]
theorem Mn.store (h : Mn R en u mb l) (K : Kin T E R mk en z) (hl : l.length ≤ 1048575) (k : Int) (y : α) (hk : WfN k) (hn : ∀ x ∈ l, x.1 ≠ k) :
    ∃ w', (Instr.mapUpdate T (.map (some mb)) (.int .i64 k) (mk y)).run Try.prog u = .ok () w' ∧ Mn R en w' mb ((k, y) :: l) ∧ Ke [mb] u w' := by
  obtain ⟨h0, h1, h2, D, h3, h4, h5, h6⟩ := h
  obtain ⟨w', hr, h7, h8⟩ := h3.store nlaw K.und (by unfold maxLen; omega) (nkey hk) (K.rd y)
  have hf : Maps.has D (.int .i64 k) = false := by
    cases hh : Maps.has D (.int .i64 k)
    · rfl
    · obtain ⟨x, hx, e⟩ := (h5 k).2 hh
      exact absurd e (hn x hx)
  refine ⟨w', hr, ⟨by simp; omega, List.pairwise_cons.2 ⟨fun x hx => (hn x hx).symm, h1⟩, fun x hx => ?_, D.put (.int .i64 k) (en y), h7, ?_, fun j => ?_, fun x hx zd => ?_⟩, nturned_ke h8⟩
  · rcases List.mem_cons.1 hx with rfl | hx
    · exact hk
    · exact h2 x hx
  · rw [Maps.size_put (h3.tidy nlaw) _, hf, h4]
    simp
  · by_cases e : j = k
    · subst e
      rw [has_put_same h3.isMap (by trivial)]
      simp
    · rw [has_put_other (nne e), ← h5 j]
      simp only [List.mem_cons]
      constructor
      · rintro ⟨x, rfl | hx, e1⟩
        · exact absurd e1.symm e
        · exact ⟨x, hx, e1⟩
      · rintro ⟨x, hx, e1⟩
        exact ⟨x, .inr hx, e1⟩
  · rcases List.mem_cons.1 hx with rfl | hx
    · exact atKey_put_same h3.isMap (by trivial) _ _
    · rw [atKey_put_other (nne (hn x hx))]
      exact h6 x hx zd
theorem Mn.drop {k : Int} {y : α} (h : Mn R en u mb ((k, y) :: l)) (K : Kin T E R mk en z) (ty : TypeId) :
    ∃ w', (Builtin.delete_ #[T, 3] ty #[.map (some mb), .int .i64 k]).run Try.prog u = .ok (.tuple #[]) w' ∧ Mn R en w' mb l ∧ Ke [mb] u w' := by
  obtain ⟨h0, h1, h2, D, h3, h4, h5, h6⟩ := h
  obtain ⟨w', hr, h7, h8⟩ := h3.drop nlaw K.und (nkey (h2 (k, y) (List.mem_cons_self ..))) ty
  have hhas := (h5 k).1 ⟨(k, y), List.mem_cons_self .., rfl⟩
  obtain ⟨hn, h1'⟩ := List.pairwise_cons.1 h1
  have hs : Maps.size (D.del (.int .i64 k)) = l.length := by
    have := Maps.size_del (k := .int .i64 k) (h3.tidy nlaw)
    rw [hhas, h4] at this
    simpa using this
  have h7' : w'.ownsMap Try.prog 3 R mb l.length (D.del (.int .i64 k)) := by
    obtain ⟨es, clock, hb, F, hsz, e⟩ := h7
    refine ⟨es, clock, hb, F, ?_, e⟩
    rw [e] at hs
    simp only [Maps.size, length_sorted, List.length_map, Array.length_toList] at hs
    omega
  refine ⟨w', hr, ⟨by simp at h0; omega, h1', fun x hx => h2 x (List.mem_cons_of_mem _ hx), D.del (.int .i64 k), h7', hs, fun j => ?_, fun x hx zd => ?_⟩, nturned_ke h8⟩
  · by_cases e : j = k
    · subst e
      rw [has_del_same]
      simp only [Bool.false_eq_true, iff_false]
      rintro ⟨x, hx, e⟩
      exact hn x hx e.symm
    · rw [has_del_other (nne e), ← h5 j]
      constructor
      · rintro ⟨x, hx, e1⟩; exact ⟨x, List.mem_cons_of_mem _ hx, e1⟩
      · rintro ⟨x, hx, e1⟩
        rcases List.mem_cons.1 hx with rfl | hx
        · exact absurd e1.symm e
        · exact ⟨x, hx, e1⟩
  · rw [atKey_del_other (nne (fun e => hn x hx e.symm))]
    exact h6 x (List.mem_cons_of_mem _ hx) zd
/-- A new one. -/
theorem Mn.made (w : World) : Mn R en (w.alloc (.map #[] 0)) w.heap.size [] :=
  ⟨by simp, .nil, (fun _ h => by cases h), ⟨DataW.map [], World.ownsMap_made _ _ _ _, rfl, (fun k => by simp [Maps.has]), (fun x h => by cases h)⟩⟩
/-- A store, as one operation. -/
theorem wp_nstore {ops : Array Oper} {rest : List Oper} {o : Oper} {a : Act} {Q : Exit → Act → World → Prop} (hg : o.guard = none) (m x v : Operand) (hop : o.op = Op.mapUpdate T m x v) (h : Mn R en u mb l) (K : Kin T E R mk en z) (hl : l.length ≤ 1048575)
    (k : Int) (y : α) (hk : WfN k) (hn : ∀ x ∈ l, x.1 ≠ k) (hm : a.eval m = .map (some mb)) (hx : a.eval x = .int .i64 k) (hv : a.eval v = mk y)
    (hK : ∀ w', Mn R en w' mb ((k, y) :: l) → Ke [mb] u w' → wpList Try.prog ops Q rest (a.put o.dst undef) w') : wpList Try.prog ops Q (o :: rest) a u := by
  refine wpList_plain hg fun K' hK' => ?_
  obtain ⟨w', hrun, r1, r2⟩ := h.store K hl k y hk hn
  unfold Oper.wp
  simp [execOp, hop, hm, hx, hv, hrun, Result.andThen]
  exact hK' _ _ (hK w' r1 r2)
/-- A delete, as one operation. -/
theorem wp_ndrop {ops : Array Oper} {rest : List Oper} {o : Oper} {a : Act} {Q : Exit → Act → World → Prop} (hg : o.guard = none) (m x : Operand) {k : Int} {y : α} (h : Mn R en u mb ((k, y) :: l)) (K : Kin T E R mk en z)
    (hop : o.op = Op.call { callee := Callee.builtin Builtin.delete, args := #[m, x], argTypes := #[T, 3] }) (hm : a.eval m = .map (some mb)) (hx : a.eval x = .int .i64 k)
    (hK : ∀ w', Mn R en w' mb l → Ke [mb] u w' → wpList Try.prog ops Q rest (a.put o.dst (.tuple #[])) w') : wpList Try.prog ops Q (o :: rest) a u := by
  refine wpList_plain hg fun K' hK' => ?_
  obtain ⟨w', hrun, r1, r2⟩ := h.drop K o.type
  unfold Oper.wp
  simp [execOp, hop, resolve, invoke, builtin, hm, hx, hrun, Result.andThen]
  exact hK' _ _ (hK w' r1 r2)

/-- A range under way: left: which numbers are still to come. -/
def Rn {α : Type} (R : Value → Option (DataW Unit × List MemPlace)) (en : α → DataW Unit) (w : World) (b r : Nat) (l : List (Int × α)) (left : Int → Bool) (cnt : Nat) : Prop :=
  ∃ (D : DataW Unit) (n : Nat) (lf : Lit → Bool), w.ranges Try.prog 3 R b r n D lf cnt ∧ (∀ k : Int, lf (.int .i64 k) = left k) ∧ (∀ k, left k = true → ∃ x ∈ l, x.1 = k) ∧ ∀ x ∈ l, ∀ zd, D.atKey (.int .i64 x.1) zd = en x.2
theorem Mn.range (h : Mn R en u mb l) (K : Kin T E R mk en z) :
    ∃ w', (Instr.range T (.map (some mb))).run Try.prog u = .ok (.pointer (some ⟨u.heap.size, 0, none⟩)) w' ∧ Rn R en w' mb u.heap.size l (fun k => l.any fun x => x.1 == k) l.length ∧ Ke [] u w' := by
  obtain ⟨h0, h1, h2, D, h3, h4, h5, h6⟩ := h
  obtain ⟨w', hr, q1, q2, q3⟩ := h3.range nlaw K.und
  rw [h4] at q1
  refine ⟨w', hr, ⟨D, _, _, q1, fun k => ?_, fun k hk => ?_, h6⟩, ⟨q2.os, q2.tape, q2.output, q2.size, fun k hk _ => q2.block k hk (by simp)⟩⟩
  · rw [Bool.eq_iff_iff, ← h5 k, List.any_eq_true]
    constructor
    · rintro ⟨x, hx, e⟩; exact ⟨x, hx, by simp [e]⟩
    · rintro ⟨x, hx, e⟩; exact ⟨x, hx, by simpa using e⟩
  · obtain ⟨x, hx, e⟩ := List.any_eq_true.1 hk
    exact ⟨x, hx, by simpa using e⟩
theorem Rn.next {b r cnt : Nat} {left : Int → Bool} (h : Rn R en u b r l left cnt) (K : Kin T E R mk en z) (ty : TypeId) :
    (cnt = 0 ∧ (∀ k, left k = false) ∧ (Instr.next (.pointer (some ⟨r, 0, none⟩)) false ty).run Try.prog u = .ok (.tuple #[.bool false]) u) ∨
    ∃ k y w' cnt', (k, y) ∈ l ∧ left k = true ∧ (Instr.next (.pointer (some ⟨r, 0, none⟩)) false ty).run Try.prog u = .ok (.tuple #[.bool true, .int .i64 k, mk y]) w' ∧ Rn R en w' b r l (fun j => left j && !(j == k)) cnt' ∧ cnt' < cnt ∧ Ke [r] u w' ∧ w'.heap.size = u.heap.size ∧ (Instr.entry (.pointer (some ⟨r, 0, none⟩))).run Try.prog w' = .ok (.tuple #[.int .i64 k, mk y]) w' := by
  obtain ⟨D, n, lf, h1, h2, h3, h4⟩ := h
  rcases h1.next nlaw ty with ⟨k0, k1, k2⟩ | ⟨key, v, kl, y, w', cnt', k0, k1, k2, k3, k4, k5, k6, k7, k8, k9⟩
  · exact .inl ⟨k0, fun s => (h2 s).symm.trans (k1 _), k2⟩
  · right
    obtain ⟨s, rfl, rfl, _⟩ := keyOf_int_inv Try.underlying3 k0
    rw [h2] at k1
    obtain ⟨⟨x1, x2⟩, hx, e0⟩ := h3 s k1
    dsimp only at e0
    subst e0
    have e := k3 .nil
    rw [h4 _ hx] at e
    obtain ⟨y1, y2⟩ := y
    dsimp only at e
    subst e
    obtain rfl := K.inv _ _ _ k2
    refine ⟨x1, x2, w', cnt', hx, k1, k4, ⟨D, n, _, k5, fun j => ?_, fun j hj => h3 j (by simp at hj; exact hj.1), h4⟩, k6, ⟨k7.os, k7.tape, k7.output, k7.size, fun k hk hn => k7.block k hk (fun e => hn (by injection e with e; simp [e]))⟩, k8, k9⟩
    rw [h2 j, nsame]
theorem Rn.left_eq {b r cnt : Nat} {left : Int → Bool} (h : Rn R en u b r l left cnt) : u.rangeLeft b r = cnt := by
  obtain ⟨D, n, lf, h1, _⟩ := h
  exact h1.left_eq
theorem Rn.ke {L : List Nat} {b r cnt : Nat} {left : Int → Bool} (h : Rn R en u b r l left cnt) (k : Ke L u u') (hb : b ∉ L) (hr : r ∉ L) : Rn R en u' b r l left cnt := by
  obtain ⟨D, n, lf, ⟨es, clock, since, seen, c0, h1, h2, h3, h4, h5, h6⟩, h7⟩ := h
  exact ⟨D, n, lf, ⟨es, clock, since, seen, c0, (k.block b (lt_of_block h1) hb).trans h1, h2, h3, h4, (k.block r (lt_of_block h5) hr).trans h5, h6⟩, h7⟩
theorem wpList_next_n {ops : Array Oper} {rest : List Oper} {o : Oper} {a : Act} {Q : Exit → Act → World → Prop} {b r cnt : Nat} {left : Int → Bool} (h : Rn R en u b r l left cnt) (K : Kin T E R mk en z) (hg : o.guard = none) (it : Operand) (hop : o.op = Op.next it false) (hit : a.eval it = .pointer (some ⟨r, 0, none⟩))
    (hDone : Hid (∀ k, left k = false) → wpList Try.prog ops Q rest (a.put o.dst (.tuple #[.bool false])) u)
    (hMore : ∀ (k : Int) (y : α) (w' : World) (cnt' : Nat), Hid (((k, y) ∈ l ∧ left k = true) ∧ Rn R en w' b r l (fun j => left j && !(j == k)) cnt' ∧ cnt' < cnt ∧ Ke [r] u w' ∧ w'.heap.size = u.heap.size) → (Instr.entry (.pointer (some ⟨r, 0, none⟩))).run Try.prog w' = .ok (.tuple #[.int .i64 k, mk y]) w' → wpList Try.prog ops Q rest (a.put o.dst (.tuple #[.bool true, .int .i64 k, mk y])) w') :
    wpList Try.prog ops Q (o :: rest) a u := by
  refine wpList_plain hg fun K' hK' => ?_
  unfold Oper.wp
  rcases h.next K o.type with ⟨h0, hl, hrun⟩ | ⟨k, y, w', cnt', k1, k2, k3, k4, k5, k6, k7, k8⟩
  · simp [execOp, hop, hit, hrun, Result.andThen]
    exact hK' _ _ (hDone (Lib.hid hl))
  · simp [execOp, hop, hit, k3, Result.andThen]
    exact hK' _ _ (hMore k y w' cnt' (Lib.hid ⟨⟨k1, k2⟩, k4, k5, k6, k7⟩) k8)
end
end Go.Proofs.Ytndamiocmdnenaa
