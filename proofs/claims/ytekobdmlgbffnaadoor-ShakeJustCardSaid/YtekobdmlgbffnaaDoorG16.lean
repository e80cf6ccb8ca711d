/- Cz1, VtL, Sk1, MinY: texts of this seat, one behind the other. -/
import Derived.Test.YtekobdmlgbffnaaDoorCg4
import Derived.Test.YtekobdmlgbffnaaDoorG14
import Derived.Test.YtekobdmlgbffnaaDoorG15
import Derived.Test.YtekobdmlgbffnaaDoorCgG
import Derived.Test.YtekobdmlgbffnaaDoorG6
import Derived.BigQuiet
import Derived.Test.YtekobdmlgbffnaaDoorG1
import Derived.WalkKit
import Derived.Lib.Hide
/- The document's own: Find, Token: their contracts. (Written by gen_cgz1.py.) -/
namespace Go.Proofs.YtekobdmlgbffnaaDoor
set_option linter.unusedVariables false
set_option maxRecDepth 100000
set_option linter.unusedSimpArgs false
open Go.RowKit

theorem Ali.size {w : World} {o p : Obj} : ((w.alloc o).alloc p).heap.size = w.heap.size + 2 := by rw [World.size_alloc, World.size_alloc]

end Go.Proofs.YtekobdmlgbffnaaDoor

/- What vault's laws share: a vault that is kept together with the blocks around it. -/
namespace Go.Proofs.YtekobdmlgbffnaaDoor
set_option linter.unusedVariables false
set_option maxRecDepth 100000
set_option linter.unusedSimpArgs false
open Go.RowKit

theorem InCf.on {w u : World} {x : Cv} (h : InCf w x) (hb : Below w.heap.size w u) : InCf u x := ⟨h.rc.on hb, h.n, fun y hy => ⟨(h.each y hy).r.on hb, (h.each y hy).nn, (h.each y hy).nk⟩⟩
/-- A vault at v (its map at mb), the blocks of L, and what was there when the law began. -/
structure Lv (w : World) (v mb : Nat) (c : List Tn) (g : Rev) (L : List (Nat × TypeId × Array Value)) (u : World) : Prop where
  va : Va u v mb c g
  kb : ∀ b ∈ L, Bk u b.1 b.2.1 b.2.2
  l : Below w.heap.size w u
  lv : w.heap.size ≤ mb
section
variable {w u u' : World} {v mb : Nat} {c : List Tn} {g g' : Rev} {L L' : List (Nat × TypeId × Array Value)}
theorem Lv.on (h : Lv w v mb c g L u) (hb : Below u.heap.size u u') : Lv w v mb c g L u' := ⟨h.va.on hb, fun b hL => (h.kb b hL).below hb (h.kb b hL).lt, h.l.trans (hb.mono h.l.size), h.lv⟩
theorem Lv.turn (h : Lv w v mb c g L u) (h' : Va u' v mb c g') (k : Ke [mb] u u') : Lv w v mb c g' L u' := by
  obtain ⟨es, ck, he⟩ := h.va.mp.block
  exact ⟨h', fun b hL => (h.kb b hL).keM k he, h.l.trans (k.below h.l.size (fun x hx => by obtain rfl := List.mem_singleton.1 hx; exact h.lv)), h.lv⟩
theorem Lv.less (h : Lv w v mb c g L u) (hL : ∀ b ∈ L', b ∈ L) : Lv w v mb c g L' u := ⟨h.va, fun b hb => h.kb b (hL b hb), h.l, h.lv⟩
theorem Lv.new (h : Lv w v mb c g L u) (t : TypeId) (cs : Array Value) : Lv w v mb c g ((u.heap.size, t, cs) :: L) (u.alloc (.cells cs t)) := by
  have hb := (Below.refl u.heap.size u).alloc (Nat.le_refl _) (.cells cs t)
  refine ⟨h.va.on hb, fun b hL => ?_, h.l.trans (hb.mono h.l.size), h.lv⟩
  rcases List.mem_cons.1 hL with rfl | hL
  · exact Bk.new u t cs
  · exact (h.kb b hL).below hb (h.kb b hL).lt
theorem Lv.bk (h : Lv w v mb c g L u) {b : Nat} {t : TypeId} {cs : Array Value} (hL : (b, t, cs) ∈ L) : Bk u b t cs := h.kb _ hL
theorem Lv.head {b : Nat} {t : TypeId} {cs : Array Value} (h : Lv w v mb c g ((b, t, cs) :: L) u) : Bk u b t cs := h.kb _ (List.mem_cons_self ..)
end
theorem vnew_no {x : Cv} {w : World} (h : RC w x) (hc : cfgB x.cg = false) : ∀ u, Below w.heap.size w u → Calls Tryd.prog 9 #[.agg (ccs x)] u fun e u' => e = .returned (.pointer none) ∧ Below u.heap.size u u' := fun u hu =>
  (vnew_ok x u (h.on hu)).mono fun e u' hh => by
    obtain ⟨⟨_, h1⟩ | ⟨h1, _⟩, hb⟩ := hh
    · exact ⟨h1, hb⟩
    · rw [hc] at h1; cases h1
theorem vnew_yes {x : Cv} {w : World} (h : RC w x) (hc : cfgB x.cg = true) : ∀ u, Below w.heap.size w u → ∀ L : List (Nat × TypeId × Array Value), (∀ b ∈ L, Bk u b.1 b.2.1 b.2.2) → Calls Tryd.prog 9 #[.agg (ccs x)] u fun e u' => ∃ v mb, e = .returned (.pointer (some ⟨v, 0, none⟩)) ∧ Lv w v mb x.cg.tens [] L u' ∧ u.heap.size ≤ v ∧ u.heap.size ≤ mb ∧ Below u.heap.size u u' := fun u hu L hL =>
  (vnew_ok x u (h.on hu)).mono fun e u' hh => by
    obtain ⟨⟨h1, _⟩ | ⟨_, v, mb, h1, h2, h3, h4, h5⟩, hb⟩ := hh
    · rw [hc] at h1; cases h1
    · exact ⟨v, mb, h1, ⟨h2, fun b hb' => (hL b hb').below hb (hL b hb').lt, hu.trans (hb.mono hu.size), Nat.le_trans hu.size h4⟩, h3, h4, hb⟩
end Go.Proofs.YtekobdmlgbffnaaDoor

/- A hand-shake's memory; New, Who, Over, refused: their contracts. -/
namespace Go.Proofs.YtekobdmlgbffnaaDoor
set_option linter.unusedVariables false
set_option maxRecDepth 100000
set_option linter.unusedSimpArgs false
open Go.RowKit

/-- What lies at a hand-shake, of a vault at v. -/
abbrev shc (v : Nat) : Sk → Array Value
  | .new => #[.func (.func 23) #[.agg #[.pointer (some ⟨v, 0, none⟩)]] #[], .string ⟨#[]⟩]
  | .ask a b n => #[.func (.func 37) #[.agg #[.pointer (some ⟨v, 0, none⟩), .string a, .string b, .string n]] #[], .string ⟨#[]⟩]
  | .known a => #[.nilFunc, .string a]
  | .no => #[.nilFunc, .string ⟨#[]⟩]
abbrev mz : Array Value := #[.int .i64 0, .string ⟨#[]⟩, .string ⟨#[]⟩, .int .i64 0, .int .i64 0]
abbrev set5 (w : World) (g : Nat) (a b c d e : Value) : World := ((((w.setCell ⟨g, 0, none⟩ a).setCell ⟨g, 1, none⟩ b).setCell ⟨g, 2, none⟩ c).setCell ⟨g, 3, none⟩ d).setCell ⟨g, 4, none⟩ e
abbrev set2 (w : World) (g : Nat) (a b : Value) : World := (w.setCell ⟨g, 0, none⟩ a).setCell ⟨g, 1, none⟩ b
theorem Bk.set5 {w : World} {g : Nat} {t : TypeId} {x0 x1 x2 x3 x4 : Value} (h : Bk w g t #[x0, x1, x2, x3, x4]) (a b c d e : Value) : Bk (set5 w g a b c d e) g t #[a, b, c, d, e] := by
  have k := ((((h.set 0 a).set 1 b).set 2 c).set 3 d).set 4 e
  simpa only [List.setIfInBounds_toArray, List.set_cons_zero, List.set_cons_succ] using k
theorem Bk.set2 {w : World} {g : Nat} {t : TypeId} {x0 x1 : Value} (h : Bk w g t #[x0, x1]) (a b : Value) : Bk (set2 w g a b) g t #[a, b] := by
  have k := (h.set 0 a).set 1 b
  simpa only [List.setIfInBounds_toArray, List.set_cons_zero, List.set_cons_succ] using k
theorem Bk.far5 {w : World} {g k : Nat} {t : TypeId} {cs : Array Value} (h : Bk w k t cs) (hn : k ≠ g) (a b c d e : Value) : Bk (Proofs.YtekobdmlgbffnaaDoor.set5 w g a b c d e) k t cs :=
  ((((h.far (p := ⟨g, 0, none⟩) hn a).far (p := ⟨g, 1, none⟩) hn b).far (p := ⟨g, 2, none⟩) hn c).far (p := ⟨g, 3, none⟩) hn d).far (p := ⟨g, 4, none⟩) hn e
theorem Bk.far2 {w : World} {g k : Nat} {t : TypeId} {cs : Array Value} (h : Bk w k t cs) (hn : k ≠ g) (a b : Value) : Bk (Proofs.YtekobdmlgbffnaaDoor.set2 w g a b) k t cs :=
  (h.far (p := ⟨g, 0, none⟩) hn a).far (p := ⟨g, 1, none⟩) hn b
theorem below_set5 {w u : World} {B g : Nat} (h : Below B w u) (hg : B ≤ g) (a b c d e : Value) : Below B w (set5 u g a b c d e) :=
  ((((h.setCell (p := ⟨g, 0, none⟩) hg a).setCell (p := ⟨g, 1, none⟩) hg b).setCell (p := ⟨g, 2, none⟩) hg c).setCell (p := ⟨g, 3, none⟩) hg d).setCell (p := ⟨g, 4, none⟩) hg e
theorem below_set2 {w u : World} {B g : Nat} (h : Below B w u) (hg : B ≤ g) (a b : Value) : Below B w (set2 u g a b) :=
  (h.setCell (p := ⟨g, 0, none⟩) hg a).setCell (p := ⟨g, 1, none⟩) hg b
/-- Where what a step says, and what comes next, is laid: behind all that was there. -/
structure Two (B g : Nat) (w u : World) (m s : Array Value) : Prop where
  lo : B ≤ g
  m : Bk u g 34 m
  s : Bk u (g + 1) 65 s
  l : Below B w u
theorem Two.new (w u : World) (B : Nat) (h : Below B w u) (hB : B ≤ u.heap.size) (s : Array Value) : Two B u.heap.size w ((u.alloc (.cells mz 34)).alloc (.cells s 65)) mz s := by
  refine ⟨hB, (Bk.new u _ _).alloc _, ?_, (h.alloc hB _).alloc (by rw [World.size_alloc]; omega) _⟩
  have := Bk.new (u.alloc (.cells mz 34)) 65 s
  rwa [World.size_alloc] at this
theorem Two.on {B g : Nat} {w u v : World} {m s : Array Value} (h : Two B g w u m s) (hb : Below u.heap.size u v) : Two B g w v m s :=
  ⟨h.lo, h.m.below hb h.m.lt, h.s.below hb h.s.lt, h.l.trans (hb.mono (by have := h.m.lt; have := h.lo; omega))⟩
theorem Two.set {B g : Nat} {w u : World} {x0 x1 x2 x3 x4 y0 y1 : Value} (h : Two B g w u #[x0, x1, x2, x3, x4] #[y0, y1]) (a b c d e p q : Value) : Two B g w (set2 (set5 u g a b c d e) (g + 1) p q) #[a, b, c, d, e] #[p, q] :=
  ⟨h.lo, (h.m.set5 a b c d e).far2 (by omega) p q, (h.s.far5 (by omega) a b c d e).set2 p q, below_set2 (below_set5 h.l h.lo a b c d e) (by have := h.lo; omega) p q⟩
theorem Two.setM {B g : Nat} {w u : World} {x0 x1 x2 x3 x4 : Value} {s : Array Value} (h : Two B g w u #[x0, x1, x2, x3, x4] s) (a b c d e : Value) : Two B g w (set5 u g a b c d e) #[a, b, c, d, e] s :=
  ⟨h.lo, h.m.set5 a b c d e, h.s.far5 (by omega) a b c d e, below_set5 h.l h.lo a b c d e⟩
theorem Two.setS {B g : Nat} {w u : World} {y0 y1 : Value} {m : Array Value} (h : Two B g w u m #[y0, y1]) (p q : Value) : Two B g w (set2 u (g + 1) p q) m #[p, q] :=
  ⟨h.lo, h.m.far2 (by omega) p q, h.s.set2 p q, below_set2 h.l (by have := h.lo; omega) p q⟩

set_option maxRecDepth 100000 in
set_option maxHeartbeats 1000000 in
theorem refused_ok (n : Int) (w : World) : Calls Tryd.prog 35 #[.int .i64 n] w fun e u' => e = .returned (.tuple #[.agg #[.int .i64 5, .string ⟨#[]⟩, .string ⟨#[]⟩, .int .i64 n, .int .i64 0], .agg #[.nilFunc, .string ⟨#[]⟩]]) ∧ Below w.heap.size w u' := by
  obtain ⟨w3, hw3⟩ : ∃ w3, (w.alloc (.cells mz 34)).alloc (.cells #[.nilFunc, .string ⟨#[]⟩] 65) = w3 := ⟨_, rfl⟩
  have HT := Lib.hid (show Two w.heap.size w.heap.size w w3 mz #[.nilFunc, .string ⟨#[]⟩] by rw [← hw3]; exact Two.new w w _ (Below.refl _ _) (Nat.le_refl _) _)
  have z0 : w3.cell? ⟨w.heap.size, 0, none⟩ = some (.int .i64 0) := HT.out.m.cell 0
  have z1 : w3.cell? ⟨w.heap.size, 1, none⟩ = some (.string ⟨#[]⟩) := HT.out.m.cell 1
  have z2 : w3.cell? ⟨w.heap.size, 2, none⟩ = some (.string ⟨#[]⟩) := HT.out.m.cell 2
  have z3 : w3.cell? ⟨w.heap.size, 3, none⟩ = some (.int .i64 0) := HT.out.m.cell 3
  have z4 : w3.cell? ⟨w.heap.size, 4, none⟩ = some (.int .i64 0) := HT.out.m.cell 4
  have y0 : w3.cell? ⟨w.heap.size + 1, 0, none⟩ = some .nilFunc := HT.out.s.cell 0
  have y1 : w3.cell? ⟨w.heap.size + 1, 1, none⟩ = some (.string ⟨#[]⟩) := HT.out.s.cell 1
  have f0 := HT.out.m.frozen 0
  have f1 := HT.out.m.frozen 1
  have f2 := HT.out.m.frozen 2
  have f3 := HT.out.m.frozen 3
  have f4 := HT.out.m.frozen 4
  have d0 := HT.out.s.frozen 0
  have d1 := HT.out.s.frozen 1
  go_enter Tryd.func35, Tryd.ntmps35
  go_wp2
  have HU := HT.out.set (.int .i64 5) (.string ⟨#[]⟩) (.string ⟨#[]⟩) (.int .i64 n) (.int .i64 0) .nilFunc (.string ⟨#[]⟩)
  refine bodyPost_ret (v := .tuple #[.agg #[.int .i64 5, .string ⟨#[]⟩, .string ⟨#[]⟩, .int .i64 n, .int .i64 0], .agg #[.nilFunc, .string ⟨#[]⟩]]) ?_ rfl ⟨rfl, HU.l⟩
  have p0 := HU.m.cell 0; have p1 := HU.m.cell 1; have p2 := HU.m.cell 2; have p3 := HU.m.cell 3; have p4 := HU.m.cell 4
  have q0 := HU.s.cell 0; have q1 := HU.s.cell 1
  simp [results, Tryd.f35, go_sem, p0, p1, p2, p3, p4, q0, q1]

set_option maxHeartbeats 400000 in
theorem snew_ok (v : Nat) (w : World) : Calls Tryd.prog 12 #[.pointer (some ⟨v, 0, none⟩)] w fun e u' => e = .returned (.pointer (some ⟨w.heap.size, 0, none⟩)) ∧ Bk u' w.heap.size 65 (shc v .new) ∧ Below w.heap.size w u' := by
  have hmf : ∀ (fn : Fn) (first cap : Array Value) (w : World), (Instr.makeFunc fn first cap).run Tryd.prog w = .ok (.func fn first cap) w := fun _ _ _ _ => rfl
  go_enter Tryd.func12, Tryd.ntmps12
  go_wp2
  go_ret
  exact ⟨rfl, Bk.new w _ _, (Below.refl _ _).alloc (Nat.le_refl _) _⟩

theorem shc_over (v : Nat) (s : Sk) (h : ovS s = true) : ∃ a, shc v s = #[.nilFunc, .string a] ∧ whS s = a := by
  cases s with
  | new => cases h
  | ask a b n => cases h
  | known a => exact ⟨a, rfl, rfl⟩
  | no => exact ⟨_, rfl, rfl⟩
theorem shc_on (v : Nat) (s : Sk) (h : ovS s = false) : ∃ f r, shc v s = #[.func f r #[], .string ⟨#[]⟩] ∧ whS s = ⟨#[]⟩ := by
  cases s with
  | new => exact ⟨_, _, rfl, rfl⟩
  | ask a b n => exact ⟨_, _, rfl, rfl⟩
  | known a => cases h
  | no => cases h
theorem kn_who (s : Sk) (h : skB s) : knS s = !(whS s).toList.isEmpty := by
  have h0 : (false = !(⟨#[]⟩ : ByteArray).toList.isEmpty) := by rw [ByteArray.toList_eq]; rfl
  cases s with
  | new => exact h0
  | ask a b n => exact h0
  | no => exact h0
  | known a =>
    show true = !a.toList.isEmpty
    have h1 : 1 ≤ a.size := h
    have h2 : a.toList ≠ [] := by
      intro e
      rw [ByteArray.toList_eq] at e
      have h3 : a.data.toList.length = a.size := rfl
      rw [e] at h3
      simp at h3
      omega
    cases hq : a.toList with
    | nil => exact absurd hq h2
    | cons x r => rfl

theorem nil_eq (w : World) : (binOp BinOp.eql 63 .nilFunc .nilFunc).run Tryd.prog w = .ok (.bool true) w := by kernel_rfl
theorem func_ne (f : Fn) (r : Array Value) (w : World) : (binOp BinOp.eql 63 (.func f r #[]) .nilFunc).run Tryd.prog w = .ok (.bool false) w := by kernel_rfl
set_option maxHeartbeats 400000 in
theorem over_nil (sb : Nat) (a : ByteArray) (w : World) (h : Bk w sb 65 #[.nilFunc, .string a]) : Calls Tryd.prog 17 #[.pointer (some ⟨sb, 0, none⟩)] w fun e u' => e = .returned (.bool true) ∧ u' = w := by
  have e0 : w.cell? ⟨sb, 0, none⟩ = some (.nilFunc) := h.cell 0
  have hq := nil_eq
  clear h
  go_enter Tryd.func17, Tryd.ntmps17
  go_wp2
  go_ret
  exact ⟨rfl, rfl⟩
set_option maxHeartbeats 400000 in
theorem over_func (sb : Nat) (f : Fn) (r : Array Value) (a : ByteArray) (w : World) (h : Bk w sb 65 #[.func f r #[], .string a]) : Calls Tryd.prog 17 #[.pointer (some ⟨sb, 0, none⟩)] w fun e u' => e = .returned (.bool false) ∧ u' = w := by
  have e0 : w.cell? ⟨sb, 0, none⟩ = some (.func f r #[]) := h.cell 0
  have hq := func_ne f r
  clear h
  go_enter Tryd.func17, Tryd.ntmps17
  go_wp2
  go_ret
  exact ⟨rfl, rfl⟩
theorem sover_ok (sb v : Nat) (s : Sk) (w : World) (h : Bk w sb 65 (shc v s)) : Calls Tryd.prog 17 #[.pointer (some ⟨sb, 0, none⟩)] w fun e u' => e = .returned (.bool (ovS s)) ∧ Below w.heap.size w u' := by
  cases ho : ovS s with
  | true =>
    obtain ⟨a, e1, _⟩ := shc_over v s ho
    rw [e1] at h
    exact (over_nil sb a w h).mono fun e u hh => ⟨hh.1, by rw [hh.2]; exact Below.refl _ _⟩
  | false =>
    obtain ⟨f, r, e1, _⟩ := shc_on v s ho
    rw [e1] at h
    exact (over_func sb f r _ w h).mono fun e u hh => ⟨hh.1, by rw [hh.2]; exact Below.refl _ _⟩
set_option maxHeartbeats 400000 in
theorem swho_ok (sb v : Nat) (s : Sk) (w : World) (h : Bk w sb 65 (shc v s)) (hs : skB s) : Calls Tryd.prog 14 #[.pointer (some ⟨sb, 0, none⟩)] w fun e u' => e = .returned (.tuple #[.string (whS s), .bool (knS s)]) ∧ Below w.heap.size w u' := by
  have e1 : w.cell? ⟨sb, 1, none⟩ = some (.string (whS s)) := by
    have := h.cell 1
    cases s <;> exact this
  rw [kn_who s hs]
  obtain ⟨a, ha⟩ : ∃ a, whS s = a := ⟨_, rfl⟩
  rw [ha] at e1 ⊢
  clear h ha hs
  go_enter Tryd.func14, Tryd.ntmps14
  go_upto_region 1 with fail
  go_quiet (fail)
  go_wp2
  all_goals go_ret2
  all_goals exact ⟨rfl, by first | exact Below.refl _ _ | exact Below.drewN' (Below.refl _ _) _⟩
end Go.Proofs.YtekobdmlgbffnaaDoor

/- min as one operation of a region that draws its order. -/
namespace Go.Proofs.YtekobdmlgbffnaaDoor
set_option linter.unusedVariables false
set_option maxRecDepth 100000
set_option linter.unusedSimpArgs false
open Go.RowKit

theorem yieldsIf_min {P : Program} {ops : Array Oper} {S : World → Prop} {oi : Oper} {a : Act} (hw : Region.wanted oi (yielded ops a.tmps) = true) (x y : Operand) (t : TypeId) (ho : oi.op = .call { callee := .builtin .min, args := #[x, y], argTypes := #[t, t] }) (u v m : Int) (hx : a.eval x = .int .i64 u) (hy : a.eval y = .int .i64 v) (hm : min u v = m) : YieldsIf P ops S oi (.int .i64 m) a :=
  .inl ⟨hw, fun w _ => by
    have e : (if v < u then v else u) = min u v := by split <;> omega
    have hr : (Builtin.min_ #[t, t] oi.type #[.int .i64 u, .int .i64 v]).run P w = .ok (.int .i64 (min u v)) w := by rw [← e]; simp [Builtin.min_, Builtin.min2]
    unfold execOp
    simp only [ho, resolve, invoke, builtin, Sem.run_bind, Sem.run_pure, Result.andThen_ok, List.map_toArray, List.map_cons, List.map_nil, hx, hy, hr, hm]⟩
end Go.Proofs.YtekobdmlgbffnaaDoor
