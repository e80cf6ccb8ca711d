/- PrR4, PrM2, MapN: texts of this seat, one behind the other. -/
import Derived.Test.YtinjldjpncijjaaPrR3
import Derived.Test.YtinjldjpncijjaaG1
import Derived.Test.YtinjldjpncijjaaG2
import Derived.Maps.OwnSet
import Derived.Maps.RangeWalk
/- The document's own table of pairs: Same: its contract; pairs held against one another. (Begun in round 15, in a seat of the document's own table alone.) -/
namespace Go.Proofs.Ytinjldjpncijjaa
set_option linter.unusedVariables false
set_option maxRecDepth 100000
set_option linter.unusedSimpArgs false
open Go.RowKit

def eqPp (x y : Pp) : Bool := (x.v == y.v) && (x.c == y.c)
theorem eqPp_iff (x y : Pp) : eqPp x y = true ↔ x = y := by
  unfold eqPp
  simp only [Bool.and_eq_true, beq_iff_eq]
  constructor
  · rintro ⟨h1, h2⟩
    cases x; cases y
    simp only at h1 h2
    rw [h1, h2]
  · rintro rfl; exact ⟨rfl, rfl⟩
set_option maxRecDepth 100000 in
set_option maxHeartbeats 2000000 in
theorem nepp_run (x y : Pp) (p q : Operand) (w : World) : ((do eqGuard .neq 43 p q (.agg (ppc x)) (.agg (ppc y)); binOp .neq 43 (.agg (ppc x)) (.agg (ppc y))) : Sem Value).run Try.prog w = .ok (.bool (!eqPp x y)) w := by
  obtain ⟨k, a⟩ := x
  obtain ⟨k', a'⟩ := y
  unfold eqPp
  go_simp
  repeat' split
  all_goals simp_all
set_option maxRecDepth 100000 in
set_option maxHeartbeats 2000000 in
theorem eqpp_run (x y : Pp) (p q : Operand) (w : World) : ((do eqGuard .eql 43 p q (.agg (ppc x)) (.agg (ppc y)); binOp .eql 43 (.agg (ppc x)) (.agg (ppc y))) : Sem Value).run Try.prog w = .ok (.bool (eqPp x y)) w := by
  obtain ⟨k, a⟩ := x
  obtain ⟨k', a'⟩ := y
  unfold eqPp
  go_simp
  repeat' split
  all_goals simp_all
theorem yieldsIf_nepp {ops : Array Oper} {S : World → Prop} {oi : Oper} {a : Act} (hw : Region.wanted oi (yielded ops a.tmps) = true) (p q : Operand) (d : TypeId) (ho : oi.op = .binOp .neq 43 p q d) (x y : Pp) (hx : a.eval p = .agg (ppc x)) (hy : a.eval q = .agg (ppc y)) : YieldsIf Try.prog ops S oi (.bool (!eqPp x y)) a :=
  .inl ⟨hw, fun w hw' => by
    have h1 := nepp_run x y p q w
    unfold execOp
    simp only [ho, hx, hy]
    rw [Sem.run_bind, h1]
    rfl⟩
theorem wpList_eqpp {ops : Array Oper} {Q : Exit → Act → World → Prop} {a : Act} {w : World} {rest : List Oper} {o : Oper} (hw : Region.wanted o (yielded ops a.tmps) = true) (p q : Operand) (d : TypeId) (ho : o.op = .binOp .eql 43 p q d) (x y : Pp) (hx : a.eval p = .agg (ppc x)) (hy : a.eval q = .agg (ppc y))
    (h : wpList Try.prog ops Q rest (a.put o.dst (.bool (eqPp x y))) w) : wpList Try.prog ops Q (o :: rest) a w :=
  wpList_wanted hw fun K hK => by
    have h1 := eqpp_run x y p q w
    unfold Oper.wp execOp
    simp only [ho, hx, hy]
    rw [Sem.run_bind, h1]
    exact hK _ _ h
set_option maxRecDepth 100000 in
set_option maxHeartbeats 4000000 in
theorem pr_same (A B : Option Addr) (c d : Nat) (l r : List Pp) (u : World) (n m : Nat) (hl : l.length = n) (hr : r.length = m) (hA : Rw 2 ppc u A l) (hB : Rw 2 ppc u B r) (hn : n ≤ 1000000) (hm : m ≤ 1000000) (R : Bool) (hR : decide (l = r) = R) :
    Calls Try.prog 20 #[.slice A n c, .slice B m d] u fun e u' => e = .returned (.bool R) ∧ Below u.heap.size u u' := by
  have HA := Lib.hid hA
  have HB := Lib.hid hB
  have HL := Lib.hid (And.intro hl hr)
  have HR := Lib.hid hR
  by_cases hnm : n = m
  · subst hnm
    clear hl hr hA hB hR
    go_enter Try.func20, Try.ntmps20
    go_wp2
    go_loopw [5] (fun v5 wr => ∃ i : Nat, i ≤ n ∧ v5 = .int .i64 (i : Int) ∧ Hid (l.take i = r.take i) ∧ Hid (Below u.heap.size u wr)) (fun v5 _ => n - (intOf v5).toNat)
    case atStart => exact ⟨0, by omega, rfl, Lib.hid (by simp), Lib.hid (Below.refl _ _)⟩
    case round =>
      obtain ⟨i, hi, rfl, H0, HW⟩ := hrel
      by_cases hi1 : i < n
      · have hi2 : (i : Int) < (n : Int) := by omega
        obtain ⟨b, o, x, rfl, hx, hc⟩ := rowPP HA.out i (by rw [HL.out.1]; exact hi1)
        obtain ⟨b', o', y, rfl, hy, hc'⟩ := rowPP HB.out i (by rw [HL.out.2]; exact hi1)
        have HX := Lib.hid (And.intro hx hy)
        obtain ⟨xv, xc⟩ := x
        obtain ⟨yv, yc⟩ := y
        have HCX := Lib.hid hc
        have HCY := Lib.hid hc'
        dsimp only at HCX HCY
        obtain ⟨q, hq⟩ : ∃ q, eqPp ⟨xv, xc⟩ ⟨yv, yc⟩ = q := ⟨_, rfl⟩
        have HQ := Lib.hid hq
        clear hc hc' hx hy hq
        go_upto_region 6 with fail
        try simp only [List.cons_append, List.nil_append]
        refine wp_region_held_drew (S := fun wz => Below wr.heap.size wr wz) (by kernel_rfl) ((Below.refl _ _).drew) (fun hHeld => ?_)
        refine take_at (some 17) (i := 0) (v := ?_) rfl rfl (by kernel_rfl) (by kernel_rfl) (by kernel_rfl) (fun _ _ _ h => h) (Or.inl ⟨by kernel_rfl, ?_⟩) hHeld ?_
        rotate_left
        · intro wz hSw; go_simp; try (with_reducible rfl)
        try simp only [Act.put, List.setIfInBounds_toArray, List.set_cons_zero, List.set_cons_succ, List.getElem_toArray, List.getElem_cons_succ, List.getElem_cons_zero]
        refine take_at (some 18) (i := 1) (v := ?_) rfl rfl (by kernel_rfl) (by kernel_rfl) (by kernel_rfl) (fun _ _ _ h => h) (Or.inl ⟨by kernel_rfl, ?_⟩) hHeld ?_
        rotate_left
        · intro wz hSw; go_simp; try (with_reducible rfl)
        try simp only [Act.put, List.setIfInBounds_toArray, List.set_cons_zero, List.set_cons_succ, List.getElem_toArray, List.getElem_cons_succ, List.getElem_cons_zero]
        refine take_at (some 19) (i := 2) (v := ?_) rfl rfl (by kernel_rfl) (by kernel_rfl) (by kernel_rfl) (fun _ _ _ h => h) (Or.inl ⟨by kernel_rfl, ?_⟩) hHeld ?_
        rotate_left
        · intro wz hSw; go_simp; try (with_reducible rfl)
        try simp only [Act.put, List.setIfInBounds_toArray, List.set_cons_zero, List.set_cons_succ, List.getElem_toArray, List.getElem_cons_succ, List.getElem_cons_zero]
        refine take_at (some 20) (i := 3) (v := ?_) rfl rfl (by kernel_rfl) (by kernel_rfl) (by kernel_rfl) (fun _ _ _ h => h) (Or.inl ⟨by kernel_rfl, ?_⟩) hHeld ?_
        rotate_left
        · intro wz hSw; obtain ⟨p0, p1⟩ := HCX.out wz (HW.out.trans (hSw.mono HW.out.size)); go_simp; try (with_reducible rfl)
        try simp only [Act.put, List.setIfInBounds_toArray, List.set_cons_zero, List.set_cons_succ, List.getElem_toArray, List.getElem_cons_succ, List.getElem_cons_zero]
        refine take_at (some 21) (i := 4) (v := ?_) rfl rfl (by kernel_rfl) (by kernel_rfl) (by kernel_rfl) (fun _ _ _ h => h) (Or.inl ⟨by kernel_rfl, ?_⟩) hHeld ?_
        rotate_left
        · intro wz hSw; go_simp; try (with_reducible rfl)
        try simp only [Act.put, List.setIfInBounds_toArray, List.set_cons_zero, List.set_cons_succ, List.getElem_toArray, List.getElem_cons_succ, List.getElem_cons_zero]
        refine take_at (some 22) (i := 5) (v := ?_) rfl rfl (by kernel_rfl) (by kernel_rfl) (by kernel_rfl) (fun _ _ _ h => h) (Or.inl ⟨by kernel_rfl, ?_⟩) hHeld ?_
        rotate_left
        · intro wz hSw; go_simp; try (with_reducible rfl)
        try simp only [Act.put, List.setIfInBounds_toArray, List.set_cons_zero, List.set_cons_succ, List.getElem_toArray, List.getElem_cons_succ, List.getElem_cons_zero]
        refine take_at (some 23) (i := 6) (v := ?_) rfl rfl (by kernel_rfl) (by kernel_rfl) (by kernel_rfl) (fun _ _ _ h => h) (Or.inl ⟨by kernel_rfl, ?_⟩) hHeld ?_
        rotate_left
        · intro wz hSw; go_simp; try (with_reducible rfl)
        try simp only [Act.put, List.setIfInBounds_toArray, List.set_cons_zero, List.set_cons_succ, List.getElem_toArray, List.getElem_cons_succ, List.getElem_cons_zero]
        refine take_at (some 24) (i := 7) (v := ?_) rfl rfl (by kernel_rfl) (by kernel_rfl) (by kernel_rfl) (fun _ _ _ h => h) (Or.inl ⟨by kernel_rfl, ?_⟩) hHeld ?_
        rotate_left
        · intro wz hSw; obtain ⟨p0, p1⟩ := HCY.out wz (HW.out.trans (hSw.mono HW.out.size)); go_simp; try (with_reducible rfl)
        try simp only [Act.put, List.setIfInBounds_toArray, List.set_cons_zero, List.set_cons_succ, List.getElem_toArray, List.getElem_cons_succ, List.getElem_cons_zero]
        refine take_at (some 25) (i := 8) rfl rfl (by kernel_rfl) (by kernel_rfl) (by kernel_rfl) (fun _ _ _ h => h) (yieldsIf_nepp (by kernel_rfl) (.tmp 20) (.tmp 24) 43 rfl ⟨xv, xc⟩ ⟨yv, yc⟩ rfl rfl) hHeld ?_
        try simp only [Act.put, List.setIfInBounds_toArray, List.set_cons_zero, List.set_cons_succ, List.getElem_toArray, List.getElem_cons_succ, List.getElem_cons_zero]
        try rw [HQ.out]
        refine wpAnyH_done (by kernel_rfl) ?_ _
        have hbd := HW.out.trans (((Below.refl wr.heap.size wr).drew).mono HW.out.size)
        have HW2 := Lib.hid hbd
        clear hbd hHeld
        cases q with
        | true =>
          simp only [Bool.not_true]
          go_wp2
          go_roundw
          case rel =>
            refine ⟨i + 1, by omega, by go_num, Lib.hid ?_, HW2⟩
            rw [List.take_add_one, List.take_add_one, HX.out.1, HX.out.2, H0.out, (eqPp_iff _ _).1 HQ.out]
          case measure => simp [intOf] <;> omega
        | false =>
          have HP := Lib.hid (show R = false from by
            rw [← HR.out, decide_eq_false_iff_not]
            intro e
            have h1 := HX.out.1
            rw [e, HX.out.2] at h1
            injection h1 with h1
            have h2 := (eqPp_iff (⟨xv, xc⟩ : Pp) ⟨yv, yc⟩).2 h1.symm
            rw [HQ.out] at h2
            cases h2)
          simp only [Bool.not_false]
          go_wp2
          go_ret
          exact ⟨by rw [HP.out]; rfl, HW2.out⟩
      · have hi2 : ¬ (i : Int) < (n : Int) := by omega
        have HP := Lib.hid (show R = true from by
          rw [← HR.out, decide_eq_true_iff]
          have h1 := H0.out
          rwa [List.take_of_length_le (by rw [HL.out.1]; omega), List.take_of_length_le (by rw [HL.out.2]; omega)] at h1)
        go_wp2
        go_ret
        exact ⟨by rw [HP.out]; rfl, HW.out⟩
  · have hnm2 : ((n : Int) != (m : Int)) = true := by simp; omega
    have HP := Lib.hid (show R = false from by
      rw [← hR, decide_eq_false_iff_not]
      intro e
      rw [e] at hl
      omega)
    clear hl hr hA hB hR
    go_enter Try.func20, Try.ntmps20
    go_wp2
    go_ret
    exact ⟨by rw [HP.out]; rfl, Below.refl _ _⟩
end Go.Proofs.Ytinjldjpncijjaa

/- Pairs: what the laws ask of a table. Plain. (Begun in round 15, ahead of the landing.) -/
namespace Go.Proofs.Ytinjldjpncijjaa
set_option linter.unusedVariables false
set_option maxRecDepth 100000
set_option linter.unusedSimpArgs false

theorem ne_ids {l : List Pp} (h : (idsL l).Nodup) {p : Pp} (hp : p ∈ l) : p.v ≠ p.c := by
  induction l with
  | nil => cases hp
  | cons a r ih =>
    have hn : (a.ids ++ idsL r).Nodup := h
    obtain ⟨n1, n2, _⟩ := List.nodup_append.1 hn
    rcases List.mem_cons.1 hp with rfl | hp
    · unfold Pp.ids at n1
      simp only [List.nodup_cons, List.mem_singleton] at n1
      exact n1.1
    · exact ih n2 hp
theorem has_v (p : Pp) : p.has p.v = true := by unfold Pp.has; simp
theorem has_c (p : Pp) : p.has p.c = true := by unfold Pp.has; simp
/-- The other one's other one is oneself. -/
theorem oth_v {l : List Pp} (h : (idsL l).Nodup) {p : Pp} (hp : p ∈ l) : othP l p.v = (p.c, true) := by
  rw [oth_of h hp (has_v p), if_pos rfl]
theorem oth_c {l : List Pp} (h : (idsL l).Nodup) {p : Pp} (hp : p ∈ l) : othP l p.c = (p.v, true) := by
  rw [oth_of h hp (has_c p), if_neg (ne_ids h hp)]
/-- Two pairs have nobody in common. -/
theorem apart_at {t : Tp} (h : Gp t) {k i : Nat} {a b : Pp} (hk : k < i) (ha : t.l[k]? = some a) (hb : t.l[i]? = some b) : a.v < b.v ∧ a.c ≠ b.c ∧ a.c ≠ b.v ∧ a.v ≠ b.c := by
  obtain ⟨k1, k2⟩ := List.getElem?_eq_some_iff.1 ha
  obtain ⟨i1, i2⟩ := List.getElem?_eq_some_iff.1 hb
  have hlt : a.v < b.v := by
    have := List.pairwise_iff_getElem.1 h.up k i k1 i1 hk
    rw [k2, i2] at this
    exact this
  have hne : a ≠ b := fun e => by rw [e] at hlt; omega
  have ham := List.mem_of_getElem? ha
  have hbm := List.mem_of_getElem? hb
  refine ⟨hlt, fun e => hne ?_, fun e => hne ?_, fun e => hne ?_⟩
  · exact one_pair h.nd ham hbm (has_c a) (by rw [e]; exact has_c b)
  · exact one_pair h.nd ham hbm (has_c a) (by rw [e]; exact has_v b)
  · exact one_pair h.nd ham hbm (has_v a) (by rw [e]; exact has_c b)
/-- How Join ends. -/
theorem join_cases (t : Tp) (v c : Int) :
    ((v < 1 ∨ c < 1 ∨ v = c) ∧ joinP t v c = (1, t)) ∨
    (¬ (v < 1 ∨ c < 1 ∨ v = c) ∧ (v ∈ t.ev ∨ c ∈ t.ev) ∧ joinP t v c = (4, t)) ∨
    (¬ (v < 1 ∨ c < 1 ∨ v = c) ∧ ¬ (v ∈ t.ev ∨ c ∈ t.ev) ∧ joinP t v c = (0, ⟨insP ⟨v, c⟩ t.l, t.ev ++ [v, c]⟩)) := by
  unfold joinP
  by_cases h1 : v < 1 ∨ c < 1 ∨ v = c
  · exact .inl ⟨h1, by rw [if_pos h1]⟩
  · by_cases h2 : v ∈ t.ev ∨ c ∈ t.ev
    · exact .inr (.inl ⟨h1, h2, by rw [if_neg h1, if_pos h2]⟩)
    · exact .inr (.inr ⟨h1, h2, by rw [if_neg h1, if_neg h2]⟩)
theorem ins_len (p : Pp) (l : List Pp) : (insP p l).length = l.length + 1 := by rw [(ins_perm p l).length_eq]; rfl
theorem ev_part (t : Tp) (id : Int) : (partP t id).2.ev = t.ev := rfl
theorem part_few (t : Tp) (id : Int) : (partP t id).2.l.length ≤ t.l.length := List.length_filter_le ..
theorem join_few (t : Tp) (v c : Int) : (joinP t v c).2.l.length ≤ t.l.length + 1 ∧ (joinP t v c).2.ev.length ≤ t.ev.length + 2 := by
  rcases join_cases t v c with ⟨_, h⟩ | ⟨_, _, h⟩ | ⟨_, _, h⟩
  · rw [h]; exact ⟨by simp, by simp⟩
  · rw [h]; exact ⟨by simp, by simp⟩
  · rw [h]; exact ⟨by show (insP _ _).length ≤ _; rw [ins_len]; omega, by show (t.ev ++ [v, c]).length ≤ _; rw [List.length_append]; simp⟩
end Go.Proofs.Ytinjldjpncijjaa

/- Maps from numbers to things that lie whole in their entries, as lists; a range over one. -/
namespace Go.Proofs.Ytinjldjpncijjaa
set_option linter.unusedVariables false
set_option maxRecDepth 100000
set_option linter.unusedSimpArgs false
open Go.RowKit Go.Maps

theorem nlaw : Keyed Try.prog 3 := int_keyed Try.underlying3
abbrev WfN (x : Int) : Prop := (Lit.int .i64 x).wf = true
theorem wfN_of {x : Int} (h0 : 0 ≤ x) (h1 : x ≤ 9223372036854775807) : WfN x := by
  have hmin : IntKind.i64.min = -9223372036854775808 := by decide
  have hmax : IntKind.i64.max = 9223372036854775807 := by decide
  show (decide (IntKind.i64.min ≤ x) && decide (x ≤ IntKind.i64.max)) = true
  rw [hmin, hmax, Bool.and_eq_true, decide_eq_true_iff, decide_eq_true_iff]
  omega
theorem nkey {x : Int} (h : WfN x) : keyOf Try.prog 3 (.int .i64 x) = some (.int .i64 x) := keyOf_int_mk Try.underlying3 h
theorem nne {a b : Int} (h : a ≠ b) : (Lit.int .i64 a) ≠ (Lit.int .i64 b) := fun e => h (by injection e)
theorem nsame (z s : Int) : (Lit.int .i64 z).sameKey (.int .i64 s) = (z == s) := by
  show decide (IntKind.i64 = IntKind.i64 ∧ z = s) = (z == s)
  by_cases h : z = s <;> simp [h]
/-- A kind of such maps: its type's number, its elements', how they read. -/
structure Kin {α : Type} (T E : TypeId) (R : Value → Option (DataW Unit × List MemPlace)) (mk : α → Value) (en : α → DataW Unit) (z : α) : Prop where
  und : Try.prog.underlying T = some (.map 3 E)
  zero : ∀ w, (zeroValue E).run Try.prog w = .ok (mk z) w
  rd : ∀ x, R (mk x) = some (en x, [])
  inv : ∀ v x ps, R v = some (en x, ps) → v = mk x
  all : ∀ v y, R v = some y → ∃ x, v = mk x
/-- At mb lies the map of those numbers to those things. -/
structure Mn {α : Type} (R : Value → Option (DataW Unit × List MemPlace)) (en : α → DataW Unit) (u : World) (mb : Nat) (l : List (Int × α)) : Prop where
  few : l.length ≤ 1048576
  ids : l.Pairwise (fun x y => x.1 ≠ y.1)
  wf : ∀ x ∈ l, WfN x.1
  ex : ∃ D, u.ownsMap Try.prog 3 R mb l.length D ∧ Maps.size D = l.length ∧ (∀ k, (∃ x ∈ l, x.1 = k) ↔ Maps.has D (.int .i64 k) = true) ∧ ∀ x ∈ l, ∀ zd, D.atKey (.int .i64 x.1) zd = en x.2
theorem nturned_ke {w w' : World} {b : Nat} (h : w.mapTurned w' b) : Ke [b] w w' := by
  have g := h.grown
  exact ⟨g.os, g.tape, g.output, g.size, fun k hk hn => g.block k hk (fun e => hn (by injection e with e; simp [e]))⟩
theorem bk_mapN {w : World} {g g' : Nat} {t : TypeId} {cs : Array Value} (h : Bk w g t cs) (h' : ∃ es ck, w.heap[g']? = some (.map es ck)) : g ≠ g' := by
  rintro rfl
  obtain ⟨es, ck, h2⟩ := h'
  have h1 : w.heap[g]? = some (.cells cs t (0, 0)) := h
  rw [h1] at h2
  cases h2
section
variable {α : Type} {T E : TypeId} {R : Value → Option (DataW Unit × List MemPlace)} {mk : α → Value} {en : α → DataW Unit} {z : α} {u u' : World} {mb : Nat} {l m : List (Int × α)}
theorem Mn.perm (h : Mn R en u mb l) (p : l.Perm m) : Mn R en u mb m := by
  obtain ⟨h0, h1, h2, D, h3, h4, h5, h6⟩ := h
  have e := p.length_eq
  exact ⟨e ▸ h0, (p.pairwise_iff (fun {a b} (e : a.1 ≠ b.1) => e.symm)).1 h1, fun x hx => h2 x (p.mem_iff.2 hx), D, e ▸ h3, e ▸ h4, fun k => by rw [← h5 k]; exact ⟨fun ⟨x, hx, hk⟩ => ⟨x, p.mem_iff.2 hx, hk⟩, fun ⟨x, hx, hk⟩ => ⟨x, p.mem_iff.1 hx, hk⟩⟩, fun x hx => h6 x (p.mem_iff.2 hx)⟩
theorem Mn.lt (h : Mn R en u mb l) : mb < u.heap.size := by
  obtain ⟨_, _, _, D, h3, _⟩ := h
  exact h3.lt
theorem Mn.block (h : Mn R en u mb l) : ∃ es ck, u.heap[mb]? = some (.map es ck) := by
  obtain ⟨_, _, _, D, ⟨es, clock, hb, _⟩, _⟩ := h
  exact ⟨es, clock, hb⟩
theorem Mn.ke {L : List Nat} (h : Mn R en u mb l) (k : Ke L u u') (hm : mb ∉ L) : Mn R en u' mb l := by
  obtain ⟨h0, h1, h2, D, ⟨es, clock, hb, r⟩, h4⟩ := h
  exact ⟨h0, h1, h2, D, ⟨es, clock, (k.block mb (lt_of_block hb) hm).trans hb, r⟩, h4⟩
theorem Mn.hit (h : Mn R en u mb l) (K : Kin T E R mk en z) {k : Int} {y : α} (hx : (k, y) ∈ l) :
    (Instr.lookup T (.map (some mb)) (.int .i64 k) true).run Try.prog u = .ok (.tuple #[mk y, .bool true]) u := by
  obtain ⟨h0, h1, h2, D, h3, h4, h5, h6⟩ := h
  obtain ⟨v, ps, hr, hv⟩ := h3.look_ok nlaw K.und (K.zero u) (K.rd z) (nkey (h2 _ hx))
  rw [h6 _ hx] at hv
  have e := K.inv _ _ _ hv
  subst e
  rw [hr, (h5 k).1 ⟨_, hx, rfl⟩]
theorem Mn.miss (h : Mn R en u mb l) (K : Kin T E R mk en z) {k : Int} (hk : WfN k) (hn : ∀ x ∈ l, x.1 ≠ k) :
    (Instr.lookup T (.map (some mb)) (.int .i64 k) true).run Try.prog u = .ok (.tuple #[mk z, .bool false]) u := by
  obtain ⟨h0, h1, h2, D, h3, h4, h5, h6⟩ := h
  obtain ⟨v, ps, hr, hv⟩ := h3.look_ok nlaw K.und (K.zero u) (K.rd z) (nkey hk)
  have hf : Maps.has D (.int .i64 k) = false := by
    cases hh : Maps.has D (.int .i64 k)
    · rfl
    · obtain ⟨x, hx, e⟩ := (h5 k).2 hh
      exact absurd e (hn x hx)
  rw [atKey_of_not_has hf] at hv
  have e := K.inv _ _ _ hv
  subst e
  rw [hr, hf]
theorem Mn.len (h : Mn R en u mb l) (K : Kin T E R mk en z) (ty : TypeId) : (Builtin.len_ #[T] ty #[.map (some mb)]).run Try.prog u = .ok (.int .i64 (l.length : Int)) u := by
  obtain ⟨h0, h1, h2, D, h3, h4, h5, h6⟩ := h
  rw [h3.len K.und ty, h4]
theorem Mn.store (h : Mn R en u mb l) (K : Kin T E R mk en z) (hl : l.length ≤ 1048575) (k : Int) (y : α) (hk : WfN k) (hn : ∀ x ∈ l, x.1 ≠ k) :
    ∃ w', (Instr.mapUpdate T (.map (some mb)) (.int .i64 k) (mk y)).run Try.prog u = .ok () w' ∧ Mn R en w' mb ((k, y) :: l) ∧ Ke [mb] u w' := by
  obtain ⟨h0, h1, h2, D, h3, h4, h5, h6⟩ := h
  obtain ⟨w', hr, h7, h8⟩ := h3.store nlaw K.und (by unfold maxLen; omega) (nkey hk) (K.rd y)
  have hf : Maps.has D (.int .i64 k) = false := by
    cases hh : Maps.has D (.int .i64 k)
    · rfl
    · obtain ⟨x, hx, e⟩ := (h5 k).2 hh
      exact absurd e (hn x hx)
  refine ⟨w', hr, ⟨by simp; omega, List.pairwise_cons.2 ⟨fun x hx => (hn x hx).symm, h1⟩, fun x hx => ?_, D.put (.int .i64 k) (en y), h7, ?_, fun j => ?_, fun x hx zd => ?_⟩, nturned_ke h8⟩
  · rcases List.mem_cons.1 hx with rfl | hx
    · exact hk
    · exact h2 x hx
  · rw [Maps.size_put (h3.tidy nlaw) _, hf, h4]
    simp
  · by_cases e : j = k
    · subst e
      rw [has_put_same h3.isMap (by trivial)]
      simp
    · rw [has_put_other (nne e), ← h5 j]
      simp only [List.mem_cons]
      constructor
      · rintro ⟨x, rfl | hx, e1⟩
        · exact absurd e1.symm e
        · exact ⟨x, hx, e1⟩
      · rintro ⟨x, hx, e1⟩
        exact ⟨x, .inr hx, e1⟩
  · rcases List.mem_cons.1 hx with rfl | hx
    · exact atKey_put_same h3.isMap (by trivial) _ _
    · rw [atKey_put_other (nne (hn x hx))]
      exact h6 x hx zd
theorem Mn.drop {k : Int} {y : α} (h : Mn R en u mb ((k, y) :: l)) (K : Kin T E R mk en z) (ty : TypeId) :
    ∃ w', (Builtin.delete_ #[T, 3] ty #[.map (some mb), .int .i64 k]).run Try.prog u = .ok (.tuple #[]) w' ∧ Mn R en w' mb l ∧ Ke [mb] u w' := by
  obtain ⟨h0, h1, h2, D, h3, h4, h5, h6⟩ := h
  obtain ⟨w', hr, h7, h8⟩ := h3.drop nlaw K.und (nkey (h2 (k, y) (List.mem_cons_self ..))) ty
  have hhas := (h5 k).1 ⟨(k, y), List.mem_cons_self .., rfl⟩
  obtain ⟨hn, h1'⟩ := List.pairwise_cons.1 h1
  have hs : Maps.size (D.del (.int .i64 k)) = l.length := by
    have := Maps.size_del (k := .int .i64 k) (h3.tidy nlaw)
    rw [hhas, h4] at this
    simpa using this
  have h7' : w'.ownsMap Try.prog 3 R mb l.length (D.del (.int .i64 k)) := by
    obtain ⟨es, clock, hb, F, hsz, e⟩ := h7
    refine ⟨es, clock, hb, F, ?_, e⟩
    rw [e] at hs
    simp only [Maps.size, length_sorted, List.length_map, Array.length_toList] at hs
    omega
  refine ⟨w', hr, ⟨by simp at h0; omega, h1', fun x hx => h2 x (List.mem_cons_of_mem _ hx), D.del (.int .i64 k), h7', hs, fun j => ?_, fun x hx zd => ?_⟩, nturned_ke h8⟩
  · by_cases e : j = k
    · subst e
      rw [has_del_same]
      simp only [Bool.false_eq_true, iff_false]
      rintro ⟨x, hx, e⟩
      exact hn x hx e.symm
    · rw [has_del_other (nne e), ← h5 j]
      constructor
      · rintro ⟨x, hx, e1⟩; exact ⟨x, List.mem_cons_of_mem _ hx, e1⟩
      · rintro ⟨x, hx, e1⟩
        rcases List.mem_cons.1 hx with rfl | hx
        · exact absurd e1.symm e
        · exact ⟨x, hx, e1⟩
  · rw [atKey_del_other (nne (fun e => hn x hx e.symm))]
    exact h6 x (List.mem_cons_of_mem _ hx) zd
/-- A new one. -/
theorem Mn.made (w : World) : Mn R en (w.alloc (.map #[] 0)) w.heap.size [] :=
  ⟨by simp, .nil, (fun _ h => by cases h), ⟨DataW.map [], World.ownsMap_made _ _ _ _, rfl, (fun k => by simp [Maps.has]), (fun x h => by cases h)⟩⟩
/-- A store, as one operation. -/
theorem wp_nstore {ops : Array Oper} {rest : List Oper} {o : Oper} {a : Act} {Q : Exit → Act → World → Prop} (hg : o.guard = none) (m x v : Operand) (hop : o.op = Op.mapUpdate T m x v) (h : Mn R en u mb l) (K : Kin T E R mk en z) (hl : l.length ≤ 1048575)
    (k : Int) (y : α) (hk : WfN k) (hn : ∀ x ∈ l, x.1 ≠ k) (hm : a.eval m = .map (some mb)) (hx : a.eval x = .int .i64 k) (hv : a.eval v = mk y)
    (hK : ∀ w', Mn R en w' mb ((k, y) :: l) → Ke [mb] u w' → wpList Try.prog ops Q rest (a.put o.dst undef) w') : wpList Try.prog ops Q (o :: rest) a u := by
  refine wpList_plain hg fun K' hK' => ?_
  obtain ⟨w', hrun, r1, r2⟩ := h.store K hl k y hk hn
  unfold Oper.wp
  simp [execOp, hop, hm, hx, hv, hrun, Result.andThen]
  exact hK' _ _ (hK w' r1 r2)
/-- A delete, as one operation. -/
theorem wp_ndrop {ops : Array Oper} {rest : List Oper} {o : Oper} {a : Act} {Q : Exit → Act → World → Prop} (hg : o.guard = none) (m x : Operand) {k : Int} {y : α} (h : Mn R en u mb ((k, y) :: l)) (K : Kin T E R mk en z)
    (hop : o.op = Op.call { callee := Callee.builtin Builtin.delete, args := #[m, x], argTypes := #[T, 3] }) (hm : a.eval m = .map (some mb)) (hx : a.eval x = .int .i64 k)
    (hK : ∀ w', Mn R en w' mb l → Ke [mb] u w' → wpList Try.prog ops Q rest (a.put o.dst (.tuple #[])) w') : wpList Try.prog ops Q (o :: rest) a u := by
  refine wpList_plain hg fun K' hK' => ?_
  obtain ⟨w', hrun, r1, r2⟩ := h.drop K o.type
  unfold Oper.wp
  simp [execOp, hop, resolve, invoke, builtin, hm, hx, hrun, Result.andThen]
  exact hK' _ _ (hK w' r1 r2)

/-- A range under way: left: which numbers are still to come. -/
def Rn {α : Type} (R : Value → Option (DataW Unit × List MemPlace)) (en : α → DataW Unit) (w : World) (b r : Nat) (l : List (Int × α)) (left : Int → Bool) (cnt : Nat) : Prop :=
  ∃ (D : DataW Unit) (n : Nat) (lf : Lit → Bool), w.ranges Try.prog 3 R b r n D lf cnt ∧ (∀ k : Int, lf (.int .i64 k) = left k) ∧ (∀ k, left k = true → ∃ x ∈ l, x.1 = k) ∧ ∀ x ∈ l, ∀ zd, D.atKey (.int .i64 x.1) zd = en x.2
theorem Mn.range (h : Mn R en u mb l) (K : Kin T E R mk en z) :
    ∃ w', (Instr.range T (.map (some mb))).run Try.prog u = .ok (.pointer (some ⟨u.heap.size, 0, none⟩)) w' ∧ Rn R en w' mb u.heap.size l (fun k => l.any fun x => x.1 == k) l.length ∧ Ke [] u w' := by
  obtain ⟨h0, h1, h2, D, h3, h4, h5, h6⟩ := h
  obtain ⟨w', hr, q1, q2, q3⟩ := h3.range nlaw K.und
  rw [h4] at q1
  refine ⟨w', hr, ⟨D, _, _, q1, fun k => ?_, fun k hk => ?_, h6⟩, ⟨q2.os, q2.tape, q2.output, q2.size, fun k hk _ => q2.block k hk (by simp)⟩⟩
  · rw [Bool.eq_iff_iff, ← h5 k, List.any_eq_true]
    constructor
    · rintro ⟨x, hx, e⟩; exact ⟨x, hx, by simp [e]⟩
    · rintro ⟨x, hx, e⟩; exact ⟨x, hx, by simpa using e⟩
  · obtain ⟨x, hx, e⟩ := List.any_eq_true.1 hk
    exact ⟨x, hx, by simpa using e⟩
theorem Rn.next {b r cnt : Nat} {left : Int → Bool} (h : Rn R en u b r l left cnt) (K : Kin T E R mk en z) (ty : TypeId) :
    (cnt = 0 ∧ (∀ k, left k = false) ∧ (Instr.next (.pointer (some ⟨r, 0, none⟩)) false ty).run Try.prog u = .ok (.tuple #[.bool false]) u) ∨
    ∃ k y w' cnt', (k, y) ∈ l ∧ left k = true ∧ (Instr.next (.pointer (some ⟨r, 0, none⟩)) false ty).run Try.prog u = .ok (.tuple #[.bool true, .int .i64 k, mk y]) w' ∧ Rn R en w' b r l (fun j => left j && !(j == k)) cnt' ∧ cnt' < cnt ∧ Ke [r] u w' ∧ w'.heap.size = u.heap.size ∧ (Instr.entry (.pointer (some ⟨r, 0, none⟩))).run Try.prog w' = .ok (.tuple #[.int .i64 k, mk y]) w' := by
  obtain ⟨D, n, lf, h1, h2, h3, h4⟩ := h
  rcases h1.next nlaw ty with ⟨k0, k1, k2⟩ | ⟨key, v, kl, y, w', cnt', k0, k1, k2, k3, k4, k5, k6, k7, k8, k9⟩
  · exact .inl ⟨k0, fun s => (h2 s).symm.trans (k1 _), k2⟩
  · right
    obtain ⟨s, rfl, rfl, _⟩ := keyOf_int_inv Try.underlying3 k0
    rw [h2] at k1
    obtain ⟨⟨x1, x2⟩, hx, e0⟩ := h3 s k1
    dsimp only at e0
    subst e0
    have e := k3 .nil
    rw [h4 _ hx] at e
    obtain ⟨y1, y2⟩ := y
    dsimp only at e
    subst e
    obtain rfl := K.inv _ _ _ k2
    refine ⟨x1, x2, w', cnt', hx, k1, k4, ⟨D, n, _, k5, fun j => ?_, fun j hj => h3 j (by simp at hj; exact hj.1), h4⟩, k6, ⟨k7.os, k7.tape, k7.output, k7.size, fun k hk hn => k7.block k hk (fun e => hn (by injection e with e; simp [e]))⟩, k8, k9⟩
    rw [h2 j, nsame]
theorem Rn.left_eq {b r cnt : Nat} {left : Int → Bool} (h : Rn R en u b r l left cnt) : u.rangeLeft b r = cnt := by
  obtain ⟨D, n, lf, h1, _⟩ := h
  exact h1.left_eq
theorem Rn.ke {L : List Nat} {b r cnt : Nat} {left : Int → Bool} (h : Rn R en u b r l left cnt) (k : Ke L u u') (hb : b ∉ L) (hr : r ∉ L) : Rn R en u' b r l left cnt := by
  obtain ⟨D, n, lf, ⟨es, clock, since, seen, c0, h1, h2, h3, h4, h5, h6⟩, h7⟩ := h
  exact ⟨D, n, lf, ⟨es, clock, since, seen, c0, (k.block b (lt_of_block h1) hb).trans h1, h2, h3, h4, (k.block r (lt_of_block h5) hr).trans h5, h6⟩, h7⟩
theorem wpList_next_n {ops : Array Oper} {rest : List Oper} {o : Oper} {a : Act} {Q : Exit → Act → World → Prop} {b r cnt : Nat} {left : Int → Bool} (h : Rn R en u b r l left cnt) (K : Kin T E R mk en z) (hg : o.guard = none) (it : Operand) (hop : o.op = Op.next it false) (hit : a.eval it = .pointer (some ⟨r, 0, none⟩))
    (hDone : Hid (∀ k, left k = false) → wpList Try.prog ops Q rest (a.put o.dst (.tuple #[.bool false])) u)
    (hMore : ∀ (k : Int) (y : α) (w' : World) (cnt' : Nat), Hid (((k, y) ∈ l ∧ left k = true) ∧ Rn R en w' b r l (fun j => left j && !(j == k)) cnt' ∧ cnt' < cnt ∧ Ke [r] u w' ∧ w'.heap.size = u.heap.size) → (Instr.entry (.pointer (some ⟨r, 0, none⟩))).run Try.prog w' = .ok (.tuple #[.int .i64 k, mk y]) w' → wpList Try.prog ops Q rest (a.put o.dst (.tuple #[.bool true, .int .i64 k, mk y])) w') :
    wpList Try.prog ops Q (o :: rest) a u := by
  refine wpList_plain hg fun K' hK' => ?_
  unfold Oper.wp
  rcases h.next K o.type with ⟨h0, hl, hrun⟩ | ⟨k, y, w', cnt', k1, k2, k3, k4, k5, k6, k7, k8⟩
  · simp [execOp, hop, hit, hrun, Result.andThen]
    exact hK' _ _ (hDone (Lib.hid hl))
  · simp [execOp, hop, hit, k3, Result.andThen]
    exact hK' _ _ (hMore k y w' cnt' (Lib.hid ⟨⟨k1, k2⟩, k4, k5, k6, k7⟩) k8)
end
end Go.Proofs.Ytinjldjpncijjaa
