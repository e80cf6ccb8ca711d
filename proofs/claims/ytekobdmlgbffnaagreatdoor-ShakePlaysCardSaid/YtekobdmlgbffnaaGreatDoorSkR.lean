/- The document's own hand-shake: its contracts. (Written by gen_skref.py.) -/
import Derived.Test.YtekobdmlgbffnaaGreatDoorSkH
import Derived.Test.YtekobdmlgbffnaaGreatDoorG18
import Derived.Test.YtekobdmlgbffnaaGreatDoorG9
import Derived.BigRegion
import Derived.Deep.RegionHeld3
namespace Go.Proofs.YtekobdmlgbffnaaGreatDoor
set_option linter.unusedVariables false
set_option maxRecDepth 100000
set_option linter.unusedSimpArgs false
open Go.RowKit

/-- What lies at the document's hand-shake. -/
def RqS : Sk → Int → ByteArray → ByteArray → ByteArray → Prop
  | .new, st, _, _, _ => st = 0
  | .ask a b c, st, t, k, n => st = 1 ∧ t = a ∧ k = b ∧ n = c
  | .known a, st, t, _, _ => st = 2 ∧ t = a
  | .no, st, _, _, _ => st = 3
theorem RqS.st {s : Sk} {st : Int} {t k n : ByteArray} (h : RqS s st t k n) : decide (1 < st) = ovS s := by
  cases s with
  | new => have : st = 0 := h; rw [this]; rfl
  | ask a b c => have : st = 1 := h.1; rw [this]; rfl
  | known a => have : st = 2 := h.1; rw [this]; rfl
  | no => have : st = 3 := h; rw [this]; rfl
structure Rk (w y : World) (qb g : Nat) (q m z : Array Value) : Prop where
  q : Bk y qb 116 q
  m : Bk y g 55 m
  z : Bk y (g + 1) 55 z
  k : Ke [qb] w y
theorem Rk.set {w y : World} {qb g : Nat} {q m z : Array Value} (h : Rk w y qb g q m z) (hn : qb < g) (i : Nat) (v : Value) : Rk w (y.setCell ⟨qb, i, none⟩ v) qb g (q.setIfInBounds i v) m z :=
  ⟨h.q.set i v, h.m.far (p := ⟨qb, i, none⟩) (by show g ≠ qb; omega) v, h.z.far (p := ⟨qb, i, none⟩) (by show g + 1 ≠ qb; omega) v, h.k.set (p := ⟨qb, i, none⟩) (List.mem_singleton.2 rfl) v⟩
theorem Rk.on {w y y' : World} {qb g : Nat} {q m z : Array Value} (h : Rk w y qb g q m z) (hb : Below y.heap.size y y') : Rk w y' qb g q m z :=
  ⟨h.q.below hb h.q.lt, h.m.below hb h.m.lt, h.z.below hb h.z.lt, h.k.trans (Ke.of hb).nil⟩
theorem Rk.ke {w y y' : World} {qb g : Nat} {q q' m z : Array Value} (h : Rk w y qb g q m z) (hn : qb < g) (hk : Ke [qb] y y') (hq : Bk y' qb 116 q') : Rk w y' qb g q' m z :=
  ⟨hq, h.m.ke hk (by simp only [List.mem_singleton]; omega), h.z.ke hk (by simp only [List.mem_singleton]; omega), h.k.trans hk⟩
theorem Rk.new (w : World) (qb : Nat) (q m : Array Value) (h : Bk w qb 116 q) : Rk w ((w.alloc (.cells m 55)).alloc (.cells #[.int .i64 0, .string ⟨#[]⟩, .string ⟨#[]⟩, .int .i64 0, .int .i64 0] 55)) qb w.heap.size q m #[.int .i64 0, .string ⟨#[]⟩, .string ⟨#[]⟩, .int .i64 0, .int .i64 0] := by
  have hb : Below w.heap.size w ((w.alloc (.cells m 55)).alloc (.cells #[.int .i64 0, .string ⟨#[]⟩, .string ⟨#[]⟩, .int .i64 0, .int .i64 0] 55)) := ((Below.refl _ _).alloc (Nat.le_refl _) _).alloc (by rw [World.size_alloc]; omega) _
  refine ⟨h.below hb h.lt, (Bk.new w _ _).alloc _, ?_, (Ke.of hb).nil⟩
  have := Bk.new (w.alloc (.cells m 55)) 55 #[.int .i64 0, .string ⟨#[]⟩, .string ⟨#[]⟩, .int .i64 0, .int .i64 0]
  rwa [World.size_alloc] at this

set_option maxHeartbeats 400000 in
theorem rqnew_ok (rb : Nat) (w : World) : Calls Tryz.prog 24 #[.pointer (some ⟨rb, 0, none⟩)] w fun e u' => e = .returned (.pointer (some ⟨w.heap.size, 0, none⟩)) ∧ Bk u' w.heap.size 116 #[.pointer (some ⟨rb, 0, none⟩), .int .i64 0, .string ⟨#[]⟩, .string ⟨#[]⟩, .string ⟨#[]⟩] ∧ Below w.heap.size w u' := by
  go_enter Tryz.func24, Tryz.ntmps24
  go_wp2
  go_ret
  exact ⟨rfl, Bk.new w _ _, (Below.refl _ _).alloc (Nat.le_refl _) _⟩
set_option maxHeartbeats 400000 in
theorem rqover_ok (qb rb : Nat) (s : Sk) (st : Int) (t k n : ByteArray) (w : World) (h : Bk w qb 116 #[.pointer (some ⟨rb, 0, none⟩), .int .i64 st, .string t, .string k, .string n]) (hs : RqS s st t k n) : Calls Tryz.prog 32 #[.pointer (some ⟨qb, 0, none⟩)] w fun e u' => e = .returned (.bool (ovS s)) ∧ Below w.heap.size w u' := by
  rw [← hs.st]
  have e1 : w.cell? ⟨qb, 1, none⟩ = some (.int .i64 st) := h.cell 1
  clear h hs
  go_enter Tryz.func32, Tryz.ntmps32
  go_wp2
  go_ret
  exact ⟨rfl, Below.refl _ _⟩
set_option maxHeartbeats 400000 in
theorem rqwho_ok (qb rb : Nat) (s : Sk) (st : Int) (t k n : ByteArray) (w : World) (h : Bk w qb 116 #[.pointer (some ⟨rb, 0, none⟩), .int .i64 st, .string t, .string k, .string n]) (hs : RqS s st t k n) : Calls Tryz.prog 30 #[.pointer (some ⟨qb, 0, none⟩)] w fun e u' => e = .returned (.tuple #[.string (whS s), .bool (knS s)]) ∧ Below w.heap.size w u' := by
  have e1 : w.cell? ⟨qb, 1, none⟩ = some (.int .i64 st) := h.cell 1
  have e2 : w.cell? ⟨qb, 2, none⟩ = some (.string t) := h.cell 2
  by_cases hk : st = 2
  · have h1 : whS s = t ∧ knS s = true := by
      cases s with
      | new => have : st = 0 := hs; omega
      | ask a b c => have : st = 1 := hs.1; omega
      | known a => exact ⟨hs.2.symm, rfl⟩
      | no => have : st = 3 := hs; omega
    rw [h1.1, h1.2]
    subst hk
    clear h hs h1
    go_enter Tryz.func30, Tryz.ntmps30
    go_wp2
    go_ret2
    exact ⟨rfl, Below.refl _ _⟩
  · have h1 : whS s = ⟨#[]⟩ ∧ knS s = false := by
      cases s with
      | new => exact ⟨rfl, rfl⟩
      | ask a b c => exact ⟨rfl, rfl⟩
      | known a => exact absurd hs.1 hk
      | no => exact ⟨rfl, rfl⟩
    rw [h1.1, h1.2]
    have hk2 : (st == 2) = false := beq_eq_false_iff_ne.2 hk
    clear h hs h1
    go_enter Tryz.func30, Tryz.ntmps30
    go_wp2
    go_ret2
    exact ⟨rfl, Below.refl _ _⟩

set_option maxRecDepth 100000 in
set_option maxHeartbeats 2000000 in
theorem rqrefuse_ok (qb rb : Nat) (st er : Int) (t k n : ByteArray) (w : World) (h : Bk w qb 116 #[.pointer (some ⟨rb, 0, none⟩), .int .i64 st, .string t, .string k, .string n]) : Calls Tryz.prog 67 #[.pointer (some ⟨qb, 0, none⟩), .int .i64 er] w fun e u' => e = .returned (.tuple #[.agg #[.int .i64 5, .string ⟨#[]⟩, .string ⟨#[]⟩, .int .i64 er, .int .i64 0], .bool true]) ∧ Bk u' qb 116 #[.pointer (some ⟨rb, 0, none⟩), .int .i64 3, .string t, .string k, .string n] ∧ Ke [qb] w u' := by
  obtain ⟨w3, hw3⟩ : ∃ w3, w.alloc (.cells #[.int .i64 0, .string ⟨#[]⟩, .string ⟨#[]⟩, .int .i64 0, .int .i64 0] 55) = w3 := ⟨_, rfl⟩
  have hlt := h.lt
  have HQ := Lib.hid (show Bk w3 qb 116 #[.pointer (some ⟨rb, 0, none⟩), .int .i64 st, .string t, .string k, .string n] by rw [← hw3]; exact h.alloc _)
  have HZ := Lib.hid (show Bk w3 w.heap.size 55 #[.int .i64 0, .string ⟨#[]⟩, .string ⟨#[]⟩, .int .i64 0, .int .i64 0] by rw [← hw3]; exact Bk.new w _ _)
  have HK := Lib.hid (show Ke [qb] w w3 by rw [← hw3]; exact (Ke.refl _ _).alloc _)
  have q1 : w3.cell? ⟨qb, 1, none⟩ = some (.int .i64 st) := HQ.out.cell 1
  have f1 := HQ.out.frozen 1
  clear h
  go_enter Tryz.func67, Tryz.ntmps67
  go_upto_region 2 with fail
  try rw [hw3]
  clear hw3 q1 f1
  refine gen_c (fun y => Bk y qb 116 #[.pointer (some ⟨rb, 0, none⟩), .int .i64 3, .string t, .string k, .string n] ∧ Bk y w.heap.size 55 #[.int .i64 0, .string ⟨#[]⟩, .string ⟨#[]⟩, .int .i64 0, .int .i64 0] ∧ Ke [qb] w y) ⟨by have k := HQ.out.set 1 (.int .i64 3); simpa only [List.setIfInBounds_toArray, List.set_cons_zero, List.set_cons_succ] using k, HZ.out.far (p := ⟨qb, 1, none⟩) (by show w.heap.size ≠ qb; omega) _, HK.out.set (p := ⟨qb, 1, none⟩) (List.mem_singleton.2 rfl) _⟩ (fun y hy => ?_)
  have HY := Lib.hid hy
  clear hy HQ HZ HK
  have z0 : y.cell? ⟨w.heap.size, 0, none⟩ = some (.int .i64 0) := HY.out.2.1.cell 0
  have z1 : y.cell? ⟨w.heap.size, 1, none⟩ = some (.string ⟨#[]⟩) := HY.out.2.1.cell 1
  have z2 : y.cell? ⟨w.heap.size, 2, none⟩ = some (.string ⟨#[]⟩) := HY.out.2.1.cell 2
  have z3 : y.cell? ⟨w.heap.size, 3, none⟩ = some (.int .i64 0) := HY.out.2.1.cell 3
  have z4 : y.cell? ⟨w.heap.size, 4, none⟩ = some (.int .i64 0) := HY.out.2.1.cell 4
  have f0 := HY.out.2.1.frozen 0
  have f1 := HY.out.2.1.frozen 1
  have f2 := HY.out.2.1.frozen 2
  have f3 := HY.out.2.1.frozen 3
  have f4 := HY.out.2.1.frozen 4
  go_wp2
  have HU : Bk (((((y.setCell ⟨w.heap.size, 0, none⟩ (.int .i64 5)).setCell ⟨w.heap.size, 1, none⟩ (.string ⟨#[]⟩)).setCell ⟨w.heap.size, 2, none⟩ (.string ⟨#[]⟩)).setCell ⟨w.heap.size, 3, none⟩ (.int .i64 er)).setCell ⟨w.heap.size, 4, none⟩ (.int .i64 0)) w.heap.size 55 #[.int .i64 5, .string ⟨#[]⟩, .string ⟨#[]⟩, .int .i64 er, .int .i64 0] := HY.out.2.1.set5 _ _ _ _ _
  have p0 := HU.cell 0; have p1 := HU.cell 1; have p2 := HU.cell 2; have p3 := HU.cell 3; have p4 := HU.cell 4
  refine bodyPost_ret (v := .tuple #[.agg #[.int .i64 5, .string ⟨#[]⟩, .string ⟨#[]⟩, .int .i64 er, .int .i64 0], .bool true]) ?_ rfl ⟨rfl, HY.out.1.far5 (by omega) _ _ _ _ _, ke_set5 HY.out.2.2 (Nat.le_refl _) _ _ _ _ _⟩
  simp [results, Tryz.f67, go_sem, p0, p1, p2, p3, p4]

set_option maxRecDepth 100000 in
set_option maxHeartbeats 4000000 in
theorem rhear_over (qb rb : Nat) (t k n : ByteArray) (xk st xn xm now : Int) (xa xb nn : ByteArray) (w : World) (hst : 1 < st) (h : Bk w qb 116 #[.pointer (some ⟨rb, 0, none⟩), .int .i64 st, .string t, .string k, .string n]) :
    Calls Tryz.prog 28 #[.pointer (some ⟨qb, 0, none⟩), .agg #[.int .i64 xk, .string xa, .string xb, .int .i64 xn, .int .i64 xm], .int .i64 now, .string nn] w fun e u' => e = .returned (.tuple #[.agg #[.int .i64 0, .string ⟨#[]⟩, .string ⟨#[]⟩, .int .i64 0, .int .i64 0], .bool false]) ∧ Bk u' qb 116 #[.pointer (some ⟨rb, 0, none⟩), .int .i64 st, .string t, .string k, .string n] ∧ Ke [qb] w u' := by
  have HN := Lib.hid h.lt
  obtain ⟨w3, hw3⟩ : ∃ w3, (w.alloc (.cells #[.int .i64 xk, .string xa, .string xb, .int .i64 xn, .int .i64 xm] 55)).alloc (.cells #[.int .i64 0, .string ⟨#[]⟩, .string ⟨#[]⟩, .int .i64 0, .int .i64 0] 55) = w3 := ⟨_, rfl⟩
  have HR := Lib.hid (show Rk w w3 qb w.heap.size #[.pointer (some ⟨rb, 0, none⟩), .int .i64 st, .string t, .string k, .string n] #[.int .i64 xk, .string xa, .string xb, .int .i64 xn, .int .i64 xm] #[.int .i64 0, .string ⟨#[]⟩, .string ⟨#[]⟩, .int .i64 0, .int .i64 0] by rw [← hw3]; exact Rk.new w qb _ _ h)
  clear h
  go_enter Tryz.func28, Tryz.ntmps28
  go_upto_region 1 with fail
  try rw [hw3]
  clear hw3
  obtain ⟨g, hg⟩ : ∃ g, w.heap.size = g := ⟨_, rfl⟩
  have HG := Lib.hid hg
  simp only [hg] at HR HN ⊢
  clear hg
  have q0 : w3.cell? ⟨qb, 0, none⟩ = some (.pointer (some ⟨rb, 0, none⟩)) := HR.out.q.cell 0
  have q1 : w3.cell? ⟨qb, 1, none⟩ = some (.int .i64 st) := HR.out.q.cell 1
  have q2 : w3.cell? ⟨qb, 2, none⟩ = some (.string t) := HR.out.q.cell 2
  have q3 : w3.cell? ⟨qb, 3, none⟩ = some (.string k) := HR.out.q.cell 3
  have q4 : w3.cell? ⟨qb, 4, none⟩ = some (.string n) := HR.out.q.cell 4
  have z0 : w3.cell? ⟨(g + 1), 0, none⟩ = some (.int .i64 0) := HR.out.z.cell 0
  have z1 : w3.cell? ⟨(g + 1), 1, none⟩ = some (.string ⟨#[]⟩) := HR.out.z.cell 1
  have z2 : w3.cell? ⟨(g + 1), 2, none⟩ = some (.string ⟨#[]⟩) := HR.out.z.cell 2
  have z3 : w3.cell? ⟨(g + 1), 3, none⟩ = some (.int .i64 0) := HR.out.z.cell 3
  have z4 : w3.cell? ⟨(g + 1), 4, none⟩ = some (.int .i64 0) := HR.out.z.cell 4
  have f0 := HR.out.z.frozen 0
  have f1 := HR.out.z.frozen 1
  have f2 := HR.out.z.frozen 2
  have f3 := HR.out.z.frozen 3
  have f4 := HR.out.z.frozen 4
  go_wp2
  have HU : Bk (((((w3.setCell ⟨(g + 1), 0, none⟩ (.int .i64 0)).setCell ⟨(g + 1), 1, none⟩ (.string ⟨#[]⟩)).setCell ⟨(g + 1), 2, none⟩ (.string ⟨#[]⟩)).setCell ⟨(g + 1), 3, none⟩ (.int .i64 0)).setCell ⟨(g + 1), 4, none⟩ (.int .i64 0)) (g + 1) 55 #[.int .i64 0, .string ⟨#[]⟩, .string ⟨#[]⟩, .int .i64 0, .int .i64 0] := HR.out.z.set5 _ _ _ _ _
  have p0 := HU.cell 0; have p1 := HU.cell 1; have p2 := HU.cell 2; have p3 := HU.cell 3; have p4 := HU.cell 4
  refine bodyPost_ret (v := .tuple #[.agg #[.int .i64 0, .string ⟨#[]⟩, .string ⟨#[]⟩, .int .i64 0, .int .i64 0], .bool false]) ?_ rfl ⟨rfl, HR.out.q.far5 (by have := HN.out; omega) _ _ _ _ _, ke_set5 HR.out.k (by rw [HG.out]; omega) _ _ _ _ _⟩
  simp [results, Tryz.f28, go_sem, p0, p1, p2, p3, p4]

set_option maxRecDepth 100000 in
set_option maxHeartbeats 4000000 in
theorem rhear_no0 (qb rb : Nat) (t k n : ByteArray) (xk xn xm now : Int) (xa xb nn : ByteArray) (w : World) (hk : ¬ xk = 1) (h : Bk w qb 116 #[.pointer (some ⟨rb, 0, none⟩), .int .i64 0, .string t, .string k, .string n]) :
    Calls Tryz.prog 28 #[.pointer (some ⟨qb, 0, none⟩), .agg #[.int .i64 xk, .string xa, .string xb, .int .i64 xn, .int .i64 xm], .int .i64 now, .string nn] w fun e u' => e = .returned (.tuple #[.agg #[.int .i64 5, .string ⟨#[]⟩, .string ⟨#[]⟩, .int .i64 1, .int .i64 0], .bool true]) ∧ Bk u' qb 116 #[.pointer (some ⟨rb, 0, none⟩), .int .i64 3, .string t, .string k, .string n] ∧ Ke [qb] w u' := by
  have HN := Lib.hid h.lt
  obtain ⟨w3, hw3⟩ : ∃ w3, (w.alloc (.cells #[.int .i64 xk, .string xa, .string xb, .int .i64 xn, .int .i64 xm] 55)).alloc (.cells #[.int .i64 0, .string ⟨#[]⟩, .string ⟨#[]⟩, .int .i64 0, .int .i64 0] 55) = w3 := ⟨_, rfl⟩
  have HR := Lib.hid (show Rk w w3 qb w.heap.size #[.pointer (some ⟨rb, 0, none⟩), .int .i64 0, .string t, .string k, .string n] #[.int .i64 xk, .string xa, .string xb, .int .i64 xn, .int .i64 xm] #[.int .i64 0, .string ⟨#[]⟩, .string ⟨#[]⟩, .int .i64 0, .int .i64 0] by rw [← hw3]; exact Rk.new w qb _ _ h)
  clear h
  go_enter Tryz.func28, Tryz.ntmps28
  go_upto_region 1 with fail
  try rw [hw3]
  clear hw3
  obtain ⟨g, hg⟩ : ∃ g, w.heap.size = g := ⟨_, rfl⟩
  have HG := Lib.hid hg
  simp only [hg] at HR HN ⊢
  clear hg
  have hk2 : (xk == 1) = false := beq_eq_false_iff_ne.2 hk
  have q0 : w3.cell? ⟨qb, 0, none⟩ = some (.pointer (some ⟨rb, 0, none⟩)) := HR.out.q.cell 0
  have q1 : w3.cell? ⟨qb, 1, none⟩ = some (.int .i64 0) := HR.out.q.cell 1
  have q2 : w3.cell? ⟨qb, 2, none⟩ = some (.string t) := HR.out.q.cell 2
  have q3 : w3.cell? ⟨qb, 3, none⟩ = some (.string k) := HR.out.q.cell 3
  have q4 : w3.cell? ⟨qb, 4, none⟩ = some (.string n) := HR.out.q.cell 4
  have m0 : w3.cell? ⟨g, 0, none⟩ = some (.int .i64 xk) := HR.out.m.cell 0
  have m1 : w3.cell? ⟨g, 1, none⟩ = some (.string xa) := HR.out.m.cell 1
  have m2 : w3.cell? ⟨g, 2, none⟩ = some (.string xb) := HR.out.m.cell 2
  have m3 : w3.cell? ⟨g, 3, none⟩ = some (.int .i64 xn) := HR.out.m.cell 3
  have m4 : w3.cell? ⟨g, 4, none⟩ = some (.int .i64 xm) := HR.out.m.cell 4
  go_wp2_with (go_at_call 67; (with_reducible refine (rqrefuse_ok qb rb 0 1 t k n _ HR.out.q).mono ?_); rintro e u6 ⟨rfl, hq, hk6⟩; have HR6 := Lib.hid (HR.out.ke (by have := HN.out; omega) hk6 hq); clear hq hk6; have z0 : u6.cell? ⟨(g + 1), 0, none⟩ = some (.int .i64 0) := HR6.out.z.cell 0; have z1 : u6.cell? ⟨(g + 1), 1, none⟩ = some (.string ⟨#[]⟩) := HR6.out.z.cell 1; have z2 : u6.cell? ⟨(g + 1), 2, none⟩ = some (.string ⟨#[]⟩) := HR6.out.z.cell 2; have z3 : u6.cell? ⟨(g + 1), 3, none⟩ = some (.int .i64 0) := HR6.out.z.cell 3; have z4 : u6.cell? ⟨(g + 1), 4, none⟩ = some (.int .i64 0) := HR6.out.z.cell 4; have f0 := HR6.out.z.frozen 0; have f1 := HR6.out.z.frozen 1; have f2 := HR6.out.z.frozen 2; have f3 := HR6.out.z.frozen 3; have f4 := HR6.out.z.frozen 4)
  have HU : Bk (((((u6.setCell ⟨(g + 1), 0, none⟩ (.int .i64 5)).setCell ⟨(g + 1), 1, none⟩ (.string ⟨#[]⟩)).setCell ⟨(g + 1), 2, none⟩ (.string ⟨#[]⟩)).setCell ⟨(g + 1), 3, none⟩ (.int .i64 1)).setCell ⟨(g + 1), 4, none⟩ (.int .i64 0)) (g + 1) 55 #[.int .i64 5, .string ⟨#[]⟩, .string ⟨#[]⟩, .int .i64 1, .int .i64 0] := HR6.out.z.set5 _ _ _ _ _
  have p0 := HU.cell 0; have p1 := HU.cell 1; have p2 := HU.cell 2; have p3 := HU.cell 3; have p4 := HU.cell 4
  refine bodyPost_ret (v := .tuple #[.agg #[.int .i64 5, .string ⟨#[]⟩, .string ⟨#[]⟩, .int .i64 1, .int .i64 0], .bool true]) ?_ rfl ⟨rfl, HR6.out.q.far5 (by have := HN.out; omega) _ _ _ _ _, ke_set5 HR6.out.k (by rw [HG.out]; omega) _ _ _ _ _⟩
  simp [results, Tryz.f28, go_sem, p0, p1, p2, p3, p4]

set_option maxRecDepth 100000 in
set_option maxHeartbeats 4000000 in
theorem rhear_no1 (qb rb : Nat) (t k n : ByteArray) (xk xn xm now : Int) (xa xb nn : ByteArray) (w : World) (hk : ¬ xk = 3) (h : Bk w qb 116 #[.pointer (some ⟨rb, 0, none⟩), .int .i64 1, .string t, .string k, .string n]) :
    Calls Tryz.prog 28 #[.pointer (some ⟨qb, 0, none⟩), .agg #[.int .i64 xk, .string xa, .string xb, .int .i64 xn, .int .i64 xm], .int .i64 now, .string nn] w fun e u' => e = .returned (.tuple #[.agg #[.int .i64 5, .string ⟨#[]⟩, .string ⟨#[]⟩, .int .i64 1, .int .i64 0], .bool true]) ∧ Bk u' qb 116 #[.pointer (some ⟨rb, 0, none⟩), .int .i64 3, .string t, .string k, .string n] ∧ Ke [qb] w u' := by
  have HN := Lib.hid h.lt
  obtain ⟨w3, hw3⟩ : ∃ w3, (w.alloc (.cells #[.int .i64 xk, .string xa, .string xb, .int .i64 xn, .int .i64 xm] 55)).alloc (.cells #[.int .i64 0, .string ⟨#[]⟩, .string ⟨#[]⟩, .int .i64 0, .int .i64 0] 55) = w3 := ⟨_, rfl⟩
  have HR := Lib.hid (show Rk w w3 qb w.heap.size #[.pointer (some ⟨rb, 0, none⟩), .int .i64 1, .string t, .string k, .string n] #[.int .i64 xk, .string xa, .string xb, .int .i64 xn, .int .i64 xm] #[.int .i64 0, .string ⟨#[]⟩, .string ⟨#[]⟩, .int .i64 0, .int .i64 0] by rw [← hw3]; exact Rk.new w qb _ _ h)
  clear h
  go_enter Tryz.func28, Tryz.ntmps28
  go_upto_region 1 with fail
  try rw [hw3]
  clear hw3
  obtain ⟨g, hg⟩ : ∃ g, w.heap.size = g := ⟨_, rfl⟩
  have HG := Lib.hid hg
  simp only [hg] at HR HN ⊢
  clear hg
  have hk2 : (xk == 3) = false := beq_eq_false_iff_ne.2 hk
  have q0 : w3.cell? ⟨qb, 0, none⟩ = some (.pointer (some ⟨rb, 0, none⟩)) := HR.out.q.cell 0
  have q1 : w3.cell? ⟨qb, 1, none⟩ = some (.int .i64 1) := HR.out.q.cell 1
  have q2 : w3.cell? ⟨qb, 2, none⟩ = some (.string t) := HR.out.q.cell 2
  have q3 : w3.cell? ⟨qb, 3, none⟩ = some (.string k) := HR.out.q.cell 3
  have q4 : w3.cell? ⟨qb, 4, none⟩ = some (.string n) := HR.out.q.cell 4
  have m0 : w3.cell? ⟨g, 0, none⟩ = some (.int .i64 xk) := HR.out.m.cell 0
  have m1 : w3.cell? ⟨g, 1, none⟩ = some (.string xa) := HR.out.m.cell 1
  have m2 : w3.cell? ⟨g, 2, none⟩ = some (.string xb) := HR.out.m.cell 2
  have m3 : w3.cell? ⟨g, 3, none⟩ = some (.int .i64 xn) := HR.out.m.cell 3
  have m4 : w3.cell? ⟨g, 4, none⟩ = some (.int .i64 xm) := HR.out.m.cell 4
  go_wp2_with (go_at_call 67; (with_reducible refine (rqrefuse_ok qb rb 1 1 t k n _ HR.out.q).mono ?_); rintro e u6 ⟨rfl, hq, hk6⟩; have HR6 := Lib.hid (HR.out.ke (by have := HN.out; omega) hk6 hq); clear hq hk6; have z0 : u6.cell? ⟨(g + 1), 0, none⟩ = some (.int .i64 0) := HR6.out.z.cell 0; have z1 : u6.cell? ⟨(g + 1), 1, none⟩ = some (.string ⟨#[]⟩) := HR6.out.z.cell 1; have z2 : u6.cell? ⟨(g + 1), 2, none⟩ = some (.string ⟨#[]⟩) := HR6.out.z.cell 2; have z3 : u6.cell? ⟨(g + 1), 3, none⟩ = some (.int .i64 0) := HR6.out.z.cell 3; have z4 : u6.cell? ⟨(g + 1), 4, none⟩ = some (.int .i64 0) := HR6.out.z.cell 4; have f0 := HR6.out.z.frozen 0; have f1 := HR6.out.z.frozen 1; have f2 := HR6.out.z.frozen 2; have f3 := HR6.out.z.frozen 3; have f4 := HR6.out.z.frozen 4)
  have HU : Bk (((((u6.setCell ⟨(g + 1), 0, none⟩ (.int .i64 5)).setCell ⟨(g + 1), 1, none⟩ (.string ⟨#[]⟩)).setCell ⟨(g + 1), 2, none⟩ (.string ⟨#[]⟩)).setCell ⟨(g + 1), 3, none⟩ (.int .i64 1)).setCell ⟨(g + 1), 4, none⟩ (.int .i64 0)) (g + 1) 55 #[.int .i64 5, .string ⟨#[]⟩, .string ⟨#[]⟩, .int .i64 1, .int .i64 0] := HR6.out.z.set5 _ _ _ _ _
  have p0 := HU.cell 0; have p1 := HU.cell 1; have p2 := HU.cell 2; have p3 := HU.cell 3; have p4 := HU.cell 4
  refine bodyPost_ret (v := .tuple #[.agg #[.int .i64 5, .string ⟨#[]⟩, .string ⟨#[]⟩, .int .i64 1, .int .i64 0], .bool true]) ?_ rfl ⟨rfl, HR6.out.q.far5 (by have := HN.out; omega) _ _ _ _ _, ke_set5 HR6.out.k (by rw [HG.out]; omega) _ _ _ _ _⟩
  simp [results, Tryz.f28, go_sem, p0, p1, p2, p3, p4]

set_option maxRecDepth 100000 in
set_option maxHeartbeats 4000000 in
theorem rhear_hello (qb rb : Nat) (t k n : ByteArray) (xn xm now : Int) (xa xb nn : ByteArray) (w : World) (h : Bk w qb 116 #[.pointer (some ⟨rb, 0, none⟩), .int .i64 0, .string t, .string k, .string n]) :
    Calls Tryz.prog 28 #[.pointer (some ⟨qb, 0, none⟩), .agg #[.int .i64 1, .string xa, .string xb, .int .i64 xn, .int .i64 xm], .int .i64 now, .string nn] w fun e u' => e = .returned (.tuple #[.agg #[.int .i64 2, .string (cutN nn), .string ⟨#[]⟩, .int .i64 0, .int .i64 0], .bool true]) ∧ Bk u' qb 116 #[.pointer (some ⟨rb, 0, none⟩), .int .i64 1, .string xa, .string xb, .string (cutN nn)] ∧ Ke [qb] w u' := by
  have HN := Lib.hid h.lt
  obtain ⟨w3, hw3⟩ : ∃ w3, (w.alloc (.cells #[.int .i64 1, .string xa, .string xb, .int .i64 xn, .int .i64 xm] 55)).alloc (.cells #[.int .i64 0, .string ⟨#[]⟩, .string ⟨#[]⟩, .int .i64 0, .int .i64 0] 55) = w3 := ⟨_, rfl⟩
  have HR := Lib.hid (show Rk w w3 qb w.heap.size #[.pointer (some ⟨rb, 0, none⟩), .int .i64 0, .string t, .string k, .string n] #[.int .i64 1, .string xa, .string xb, .int .i64 xn, .int .i64 xm] #[.int .i64 0, .string ⟨#[]⟩, .string ⟨#[]⟩, .int .i64 0, .int .i64 0] by rw [← hw3]; exact Rk.new w qb _ _ h)
  obtain ⟨m, hm⟩ : ∃ m : Nat, min nn.size 64 = m := ⟨_, rfl⟩
  have HMIN := Lib.hid (show min (nn.size : Int) (64 : Int) = (m : Int) by omega)
  have hsl := fun u => cut_run nn m hm u
  obtain ⟨cn, hcn⟩ : ∃ cn, cutN nn = cn := ⟨_, rfl⟩
  simp only [hcn] at hsl ⊢
  clear hm hcn
  clear h
  go_enter Tryz.func28, Tryz.ntmps28
  go_upto_region 1 with fail
  try rw [hw3]
  clear hw3
  obtain ⟨g, hg⟩ : ∃ g, w.heap.size = g := ⟨_, rfl⟩
  have HG := Lib.hid hg
  simp only [hg] at HR HN ⊢
  clear hg
  have q0 : w3.cell? ⟨qb, 0, none⟩ = some (.pointer (some ⟨rb, 0, none⟩)) := HR.out.q.cell 0
  have q1 : w3.cell? ⟨qb, 1, none⟩ = some (.int .i64 0) := HR.out.q.cell 1
  have q2 : w3.cell? ⟨qb, 2, none⟩ = some (.string t) := HR.out.q.cell 2
  have q3 : w3.cell? ⟨qb, 3, none⟩ = some (.string k) := HR.out.q.cell 3
  have q4 : w3.cell? ⟨qb, 4, none⟩ = some (.string n) := HR.out.q.cell 4
  have m0 : w3.cell? ⟨g, 0, none⟩ = some (.int .i64 1) := HR.out.m.cell 0
  have m1 : w3.cell? ⟨g, 1, none⟩ = some (.string xa) := HR.out.m.cell 1
  have m2 : w3.cell? ⟨g, 2, none⟩ = some (.string xb) := HR.out.m.cell 2
  have m3 : w3.cell? ⟨g, 3, none⟩ = some (.int .i64 xn) := HR.out.m.cell 3
  have m4 : w3.cell? ⟨g, 4, none⟩ = some (.int .i64 xm) := HR.out.m.cell 4
  have qf := HR.out.q.frozen 1
  go_upto_region 5 with fail
  refine gen_c (fun y => Rk w y qb g #[.pointer (some ⟨rb, 0, none⟩), .int .i64 1, .string t, .string k, .string n] #[.int .i64 1, .string xa, .string xb, .int .i64 xn, .int .i64 xm] #[.int .i64 0, .string ⟨#[]⟩, .string ⟨#[]⟩, .int .i64 0, .int .i64 0]) (by have kk := HR.out.set (by have := HN.out; omega) 1 (.int .i64 1); simpa only [List.setIfInBounds_toArray, List.set_cons_zero, List.set_cons_succ] using kk) (fun a4 ha4 => ?_)
  have Ha4 := Lib.hid ha4
  clear ha4
  clear q0 q1 q2 q3 q4 m0 m1 m2 m3 m4 qf
  have q0 : a4.cell? ⟨qb, 0, none⟩ = some (.pointer (some ⟨rb, 0, none⟩)) := Ha4.out.q.cell 0
  have q1 : a4.cell? ⟨qb, 1, none⟩ = some (.int .i64 1) := Ha4.out.q.cell 1
  have q2 : a4.cell? ⟨qb, 2, none⟩ = some (.string t) := Ha4.out.q.cell 2
  have q3 : a4.cell? ⟨qb, 3, none⟩ = some (.string k) := Ha4.out.q.cell 3
  have q4 : a4.cell? ⟨qb, 4, none⟩ = some (.string n) := Ha4.out.q.cell 4
  have m0 : a4.cell? ⟨g, 0, none⟩ = some (.int .i64 1) := Ha4.out.m.cell 0
  have m1 : a4.cell? ⟨g, 1, none⟩ = some (.string xa) := Ha4.out.m.cell 1
  have m2 : a4.cell? ⟨g, 2, none⟩ = some (.string xb) := Ha4.out.m.cell 2
  have m3 : a4.cell? ⟨g, 3, none⟩ = some (.int .i64 xn) := Ha4.out.m.cell 3
  have m4 : a4.cell? ⟨g, 4, none⟩ = some (.int .i64 xm) := Ha4.out.m.cell 4
  have qf := Ha4.out.q.frozen 2
  go_upto_region 6 with fail
  refine gen_c (fun y => Rk w y qb g #[.pointer (some ⟨rb, 0, none⟩), .int .i64 1, .string xa, .string k, .string n] #[.int .i64 1, .string xa, .string xb, .int .i64 xn, .int .i64 xm] #[.int .i64 0, .string ⟨#[]⟩, .string ⟨#[]⟩, .int .i64 0, .int .i64 0]) (by have kk := Ha4.out.set (by have := HN.out; omega) 2 (.string xa); simpa only [List.setIfInBounds_toArray, List.set_cons_zero, List.set_cons_succ] using kk) (fun a5 ha5 => ?_)
  have Ha5 := Lib.hid ha5
  clear ha5
  clear q0 q1 q2 q3 q4 m0 m1 m2 m3 m4 qf
  have q0 : a5.cell? ⟨qb, 0, none⟩ = some (.pointer (some ⟨rb, 0, none⟩)) := Ha5.out.q.cell 0
  have q1 : a5.cell? ⟨qb, 1, none⟩ = some (.int .i64 1) := Ha5.out.q.cell 1
  have q2 : a5.cell? ⟨qb, 2, none⟩ = some (.string xa) := Ha5.out.q.cell 2
  have q3 : a5.cell? ⟨qb, 3, none⟩ = some (.string k) := Ha5.out.q.cell 3
  have q4 : a5.cell? ⟨qb, 4, none⟩ = some (.string n) := Ha5.out.q.cell 4
  have m0 : a5.cell? ⟨g, 0, none⟩ = some (.int .i64 1) := Ha5.out.m.cell 0
  have m1 : a5.cell? ⟨g, 1, none⟩ = some (.string xa) := Ha5.out.m.cell 1
  have m2 : a5.cell? ⟨g, 2, none⟩ = some (.string xb) := Ha5.out.m.cell 2
  have m3 : a5.cell? ⟨g, 3, none⟩ = some (.int .i64 xn) := Ha5.out.m.cell 3
  have m4 : a5.cell? ⟨g, 4, none⟩ = some (.int .i64 xm) := Ha5.out.m.cell 4
  have qf := Ha5.out.q.frozen 3
  go_upto_region 7 with fail
  refine gen_c (fun y => Rk w y qb g #[.pointer (some ⟨rb, 0, none⟩), .int .i64 1, .string xa, .string xb, .string n] #[.int .i64 1, .string xa, .string xb, .int .i64 xn, .int .i64 xm] #[.int .i64 0, .string ⟨#[]⟩, .string ⟨#[]⟩, .int .i64 0, .int .i64 0]) (by have kk := Ha5.out.set (by have := HN.out; omega) 3 (.string xb); simpa only [List.setIfInBounds_toArray, List.set_cons_zero, List.set_cons_succ] using kk) (fun a6 ha6 => ?_)
  have Ha6 := Lib.hid ha6
  clear ha6
  clear q0 q1 q2 q3 q4 m0 m1 m2 m3 m4 qf
  have q0 : a6.cell? ⟨qb, 0, none⟩ = some (.pointer (some ⟨rb, 0, none⟩)) := Ha6.out.q.cell 0
  have q1 : a6.cell? ⟨qb, 1, none⟩ = some (.int .i64 1) := Ha6.out.q.cell 1
  have q2 : a6.cell? ⟨qb, 2, none⟩ = some (.string xa) := Ha6.out.q.cell 2
  have q3 : a6.cell? ⟨qb, 3, none⟩ = some (.string xb) := Ha6.out.q.cell 3
  have q4 : a6.cell? ⟨qb, 4, none⟩ = some (.string n) := Ha6.out.q.cell 4
  have m0 : a6.cell? ⟨g, 0, none⟩ = some (.int .i64 1) := Ha6.out.m.cell 0
  have m1 : a6.cell? ⟨g, 1, none⟩ = some (.string xa) := Ha6.out.m.cell 1
  have m2 : a6.cell? ⟨g, 2, none⟩ = some (.string xb) := Ha6.out.m.cell 2
  have m3 : a6.cell? ⟨g, 3, none⟩ = some (.int .i64 xn) := Ha6.out.m.cell 3
  have m4 : a6.cell? ⟨g, 4, none⟩ = some (.int .i64 xm) := Ha6.out.m.cell 4
  have qf := Ha6.out.q.frozen 4
  go_upto_region 8 with ((with_reducible refine wpList_min rfl (.tmp 43) (.const (.int .i64 64)) 3 rfl _ _ _ ?hx ?hy HMIN.out ?_); (case hx => rfl); (case hy => rfl))
  refine gen_c (fun y => Rk w y qb g #[.pointer (some ⟨rb, 0, none⟩), .int .i64 1, .string xa, .string xb, .string cn] #[.int .i64 1, .string xa, .string xb, .int .i64 xn, .int .i64 xm] #[.int .i64 0, .string ⟨#[]⟩, .string ⟨#[]⟩, .int .i64 0, .int .i64 0]) (by have kk := Ha6.out.set (by have := HN.out; omega) 4 (.string cn); simpa only [List.setIfInBounds_toArray, List.set_cons_zero, List.set_cons_succ] using kk) (fun a7 ha7 => ?_)
  have Ha7 := Lib.hid ha7
  clear ha7
  clear q0 q1 q2 q3 q4 m0 m1 m2 m3 m4 qf
  have q0 : a7.cell? ⟨qb, 0, none⟩ = some (.pointer (some ⟨rb, 0, none⟩)) := Ha7.out.q.cell 0
  have q1 : a7.cell? ⟨qb, 1, none⟩ = some (.int .i64 1) := Ha7.out.q.cell 1
  have q2 : a7.cell? ⟨qb, 2, none⟩ = some (.string xa) := Ha7.out.q.cell 2
  have q3 : a7.cell? ⟨qb, 3, none⟩ = some (.string xb) := Ha7.out.q.cell 3
  have q4 : a7.cell? ⟨qb, 4, none⟩ = some (.string cn) := Ha7.out.q.cell 4
  have z0 : a7.cell? ⟨(g + 1), 0, none⟩ = some (.int .i64 0) := Ha7.out.z.cell 0
  have z1 : a7.cell? ⟨(g + 1), 1, none⟩ = some (.string ⟨#[]⟩) := Ha7.out.z.cell 1
  have z2 : a7.cell? ⟨(g + 1), 2, none⟩ = some (.string ⟨#[]⟩) := Ha7.out.z.cell 2
  have z3 : a7.cell? ⟨(g + 1), 3, none⟩ = some (.int .i64 0) := Ha7.out.z.cell 3
  have z4 : a7.cell? ⟨(g + 1), 4, none⟩ = some (.int .i64 0) := Ha7.out.z.cell 4
  have f0 := Ha7.out.z.frozen 0
  have f1 := Ha7.out.z.frozen 1
  have f2 := Ha7.out.z.frozen 2
  have f3 := Ha7.out.z.frozen 3
  have f4 := Ha7.out.z.frozen 4
  go_wp2
  have HU : Bk (((((a7.setCell ⟨(g + 1), 0, none⟩ (.int .i64 2)).setCell ⟨(g + 1), 1, none⟩ (.string cn)).setCell ⟨(g + 1), 2, none⟩ (.string ⟨#[]⟩)).setCell ⟨(g + 1), 3, none⟩ (.int .i64 0)).setCell ⟨(g + 1), 4, none⟩ (.int .i64 0)) (g + 1) 55 #[.int .i64 2, .string cn, .string ⟨#[]⟩, .int .i64 0, .int .i64 0] := Ha7.out.z.set5 _ _ _ _ _
  have p0 := HU.cell 0; have p1 := HU.cell 1; have p2 := HU.cell 2; have p3 := HU.cell 3; have p4 := HU.cell 4
  refine bodyPost_ret (v := .tuple #[.agg #[.int .i64 2, .string cn, .string ⟨#[]⟩, .int .i64 0, .int .i64 0], .bool true]) ?_ rfl ⟨rfl, Ha7.out.q.far5 (by have := HN.out; omega) _ _ _ _ _, ke_set5 Ha7.out.k (by rw [HG.out]; omega) _ _ _ _ _⟩
  simp [results, Tryz.f28, go_sem, p0, p1, p2, p3, p4]

set_option maxRecDepth 100000 in
set_option maxHeartbeats 4000000 in
theorem rhear_bad (qb rb : Nat) (t k n : ByteArray) (xn xm now : Int) (xa xb nn : ByteArray) (w : World) (er : Int) (hck : ∀ u, Ke [qb] w u → Calls Tryz.prog 66 #[.pointer (some ⟨rb, 0, none⟩), .string t, .string k, .string n, .string xa, .int .i64 now] u fun e u' => e = .returned (.int .i64 er) ∧ Below u.heap.size u u') (he : ¬ er = 0) (h : Bk w qb 116 #[.pointer (some ⟨rb, 0, none⟩), .int .i64 1, .string t, .string k, .string n]) :
    Calls Tryz.prog 28 #[.pointer (some ⟨qb, 0, none⟩), .agg #[.int .i64 3, .string xa, .string xb, .int .i64 xn, .int .i64 xm], .int .i64 now, .string nn] w fun e u' => e = .returned (.tuple #[.agg #[.int .i64 5, .string ⟨#[]⟩, .string ⟨#[]⟩, .int .i64 er, .int .i64 0], .bool true]) ∧ Bk u' qb 116 #[.pointer (some ⟨rb, 0, none⟩), .int .i64 3, .string t, .string k, .string n] ∧ Ke [qb] w u' := by
  have HN := Lib.hid h.lt
  obtain ⟨w3, hw3⟩ : ∃ w3, (w.alloc (.cells #[.int .i64 3, .string xa, .string xb, .int .i64 xn, .int .i64 xm] 55)).alloc (.cells #[.int .i64 0, .string ⟨#[]⟩, .string ⟨#[]⟩, .int .i64 0, .int .i64 0] 55) = w3 := ⟨_, rfl⟩
  have HR := Lib.hid (show Rk w w3 qb w.heap.size #[.pointer (some ⟨rb, 0, none⟩), .int .i64 1, .string t, .string k, .string n] #[.int .i64 3, .string xa, .string xb, .int .i64 xn, .int .i64 xm] #[.int .i64 0, .string ⟨#[]⟩, .string ⟨#[]⟩, .int .i64 0, .int .i64 0] by rw [← hw3]; exact Rk.new w qb _ _ h)
  have HCK := Lib.hid hck
  clear h hck
  go_enter Tryz.func28, Tryz.ntmps28
  go_upto_region 1 with fail
  try rw [hw3]
  clear hw3
  obtain ⟨g, hg⟩ : ∃ g, w.heap.size = g := ⟨_, rfl⟩
  have HG := Lib.hid hg
  simp only [hg] at HR HN ⊢
  clear hg
  have he2 : (er != 0) = true := by rw [bne_iff_ne]; exact he
  have q0 : w3.cell? ⟨qb, 0, none⟩ = some (.pointer (some ⟨rb, 0, none⟩)) := HR.out.q.cell 0
  have q1 : w3.cell? ⟨qb, 1, none⟩ = some (.int .i64 1) := HR.out.q.cell 1
  have q2 : w3.cell? ⟨qb, 2, none⟩ = some (.string t) := HR.out.q.cell 2
  have q3 : w3.cell? ⟨qb, 3, none⟩ = some (.string k) := HR.out.q.cell 3
  have q4 : w3.cell? ⟨qb, 4, none⟩ = some (.string n) := HR.out.q.cell 4
  have m0 : w3.cell? ⟨g, 0, none⟩ = some (.int .i64 3) := HR.out.m.cell 0
  have m1 : w3.cell? ⟨g, 1, none⟩ = some (.string xa) := HR.out.m.cell 1
  have m2 : w3.cell? ⟨g, 2, none⟩ = some (.string xb) := HR.out.m.cell 2
  have m3 : w3.cell? ⟨g, 3, none⟩ = some (.int .i64 xn) := HR.out.m.cell 3
  have m4 : w3.cell? ⟨g, 4, none⟩ = some (.int .i64 xm) := HR.out.m.cell 4
  go_upto_region 10 with fail
  clear q0 q1 q2 q3 q4 m0 m1 m2 m3 m4
  try simp only [List.cons_append, List.nil_append]
  try simp only [List.cons_append, List.nil_append]
  refine wp_region_held_drew (S := fun wz => Rk w wz qb g #[.pointer (some ⟨rb, 0, none⟩), .int .i64 1, .string t, .string k, .string n] #[.int .i64 3, .string xa, .string xb, .int .i64 xn, .int .i64 xm] #[.int .i64 0, .string ⟨#[]⟩, .string ⟨#[]⟩, .int .i64 0, .int .i64 0]) (by kernel_rfl) (HR.out.on (Below.refl _ _).drew) (fun hHeld => ?_)
  refine take_at (some 63) (i := 0) (v := ?_) rfl rfl (by kernel_rfl) (by kernel_rfl) (by kernel_rfl) (fun _ _ _ h => h) (Or.inl ⟨by kernel_rfl, ?_⟩) hHeld ?_
  rotate_left
  · intro wz hSw; go_simp; try (with_reducible rfl)
  try simp only [Act.put, List.setIfInBounds_toArray, List.set_cons_zero, List.set_cons_succ, List.getElem_toArray, List.getElem_cons_succ, List.getElem_cons_zero]
  refine take_at (some 64) (i := 1) (v := ?_) rfl rfl (by kernel_rfl) (by kernel_rfl) (by kernel_rfl) (fun _ _ _ h => h) (Or.inl ⟨by kernel_rfl, ?_⟩) hHeld ?_
  rotate_left
  · intro wz hSw; have q0 : wz.cell? ⟨qb, 0, none⟩ = some (.pointer (some ⟨rb, 0, none⟩)) := hSw.q.cell 0; have q1 : wz.cell? ⟨qb, 1, none⟩ = some (.int .i64 1) := hSw.q.cell 1; have q2 : wz.cell? ⟨qb, 2, none⟩ = some (.string t) := hSw.q.cell 2; have q3 : wz.cell? ⟨qb, 3, none⟩ = some (.string k) := hSw.q.cell 3; have q4 : wz.cell? ⟨qb, 4, none⟩ = some (.string n) := hSw.q.cell 4; have m1 : wz.cell? ⟨g, 1, none⟩ = some (.string xa) := hSw.m.cell 1; go_simp; try (with_reducible rfl)
  try simp only [Act.put, List.setIfInBounds_toArray, List.set_cons_zero, List.set_cons_succ, List.getElem_toArray, List.getElem_cons_succ, List.getElem_cons_zero]
  refine take_at (some 65) (i := 2) (v := ?_) rfl rfl (by kernel_rfl) (by kernel_rfl) (by kernel_rfl) (fun _ _ _ h => h) (Or.inl ⟨by kernel_rfl, ?_⟩) hHeld ?_
  rotate_left
  · intro wz hSw; have q0 : wz.cell? ⟨qb, 0, none⟩ = some (.pointer (some ⟨rb, 0, none⟩)) := hSw.q.cell 0; have q1 : wz.cell? ⟨qb, 1, none⟩ = some (.int .i64 1) := hSw.q.cell 1; have q2 : wz.cell? ⟨qb, 2, none⟩ = some (.string t) := hSw.q.cell 2; have q3 : wz.cell? ⟨qb, 3, none⟩ = some (.string k) := hSw.q.cell 3; have q4 : wz.cell? ⟨qb, 4, none⟩ = some (.string n) := hSw.q.cell 4; have m1 : wz.cell? ⟨g, 1, none⟩ = some (.string xa) := hSw.m.cell 1; go_simp; try (with_reducible rfl)
  try simp only [Act.put, List.setIfInBounds_toArray, List.set_cons_zero, List.set_cons_succ, List.getElem_toArray, List.getElem_cons_succ, List.getElem_cons_zero]
  refine take_at (some 66) (i := 3) (v := ?_) rfl rfl (by kernel_rfl) (by kernel_rfl) (by kernel_rfl) (fun _ _ _ h => h) (Or.inl ⟨by kernel_rfl, ?_⟩) hHeld ?_
  rotate_left
  · intro wz hSw; have q0 : wz.cell? ⟨qb, 0, none⟩ = some (.pointer (some ⟨rb, 0, none⟩)) := hSw.q.cell 0; have q1 : wz.cell? ⟨qb, 1, none⟩ = some (.int .i64 1) := hSw.q.cell 1; have q2 : wz.cell? ⟨qb, 2, none⟩ = some (.string t) := hSw.q.cell 2; have q3 : wz.cell? ⟨qb, 3, none⟩ = some (.string k) := hSw.q.cell 3; have q4 : wz.cell? ⟨qb, 4, none⟩ = some (.string n) := hSw.q.cell 4; have m1 : wz.cell? ⟨g, 1, none⟩ = some (.string xa) := hSw.m.cell 1; go_simp; try (with_reducible rfl)
  try simp only [Act.put, List.setIfInBounds_toArray, List.set_cons_zero, List.set_cons_succ, List.getElem_toArray, List.getElem_cons_succ, List.getElem_cons_zero]
  refine take_at (some 67) (i := 4) (v := ?_) rfl rfl (by kernel_rfl) (by kernel_rfl) (by kernel_rfl) (fun _ _ _ h => h) (Or.inl ⟨by kernel_rfl, ?_⟩) hHeld ?_
  rotate_left
  · intro wz hSw; go_simp; try (with_reducible rfl)
  try simp only [Act.put, List.setIfInBounds_toArray, List.set_cons_zero, List.set_cons_succ, List.getElem_toArray, List.getElem_cons_succ, List.getElem_cons_zero]
  refine take_at (some 68) (i := 5) (v := ?_) rfl rfl (by kernel_rfl) (by kernel_rfl) (by kernel_rfl) (fun _ _ _ h => h) (Or.inl ⟨by kernel_rfl, ?_⟩) hHeld ?_
  rotate_left
  · intro wz hSw; have q0 : wz.cell? ⟨qb, 0, none⟩ = some (.pointer (some ⟨rb, 0, none⟩)) := hSw.q.cell 0; have q1 : wz.cell? ⟨qb, 1, none⟩ = some (.int .i64 1) := hSw.q.cell 1; have q2 : wz.cell? ⟨qb, 2, none⟩ = some (.string t) := hSw.q.cell 2; have q3 : wz.cell? ⟨qb, 3, none⟩ = some (.string k) := hSw.q.cell 3; have q4 : wz.cell? ⟨qb, 4, none⟩ = some (.string n) := hSw.q.cell 4; have m1 : wz.cell? ⟨g, 1, none⟩ = some (.string xa) := hSw.m.cell 1; go_simp; try (with_reducible rfl)
  try simp only [Act.put, List.setIfInBounds_toArray, List.set_cons_zero, List.set_cons_succ, List.getElem_toArray, List.getElem_cons_succ, List.getElem_cons_zero]
  refine take_at (some 69) (i := 6) (v := ?_) rfl rfl (by kernel_rfl) (by kernel_rfl) (by kernel_rfl) (fun _ _ _ h => h) (Or.inl ⟨by kernel_rfl, ?_⟩) hHeld ?_
  rotate_left
  · intro wz hSw; have q0 : wz.cell? ⟨qb, 0, none⟩ = some (.pointer (some ⟨rb, 0, none⟩)) := hSw.q.cell 0; have q1 : wz.cell? ⟨qb, 1, none⟩ = some (.int .i64 1) := hSw.q.cell 1; have q2 : wz.cell? ⟨qb, 2, none⟩ = some (.string t) := hSw.q.cell 2; have q3 : wz.cell? ⟨qb, 3, none⟩ = some (.string k) := hSw.q.cell 3; have q4 : wz.cell? ⟨qb, 4, none⟩ = some (.string n) := hSw.q.cell 4; have m1 : wz.cell? ⟨g, 1, none⟩ = some (.string xa) := hSw.m.cell 1; go_simp; try (with_reducible rfl)
  try simp only [Act.put, List.setIfInBounds_toArray, List.set_cons_zero, List.set_cons_succ, List.getElem_toArray, List.getElem_cons_succ, List.getElem_cons_zero]
  refine take_at (some 70) (i := 7) (v := ?_) rfl rfl (by kernel_rfl) (by kernel_rfl) (by kernel_rfl) (fun _ _ _ h => h) (Or.inl ⟨by kernel_rfl, ?_⟩) hHeld ?_
  rotate_left
  · intro wz hSw; have q0 : wz.cell? ⟨qb, 0, none⟩ = some (.pointer (some ⟨rb, 0, none⟩)) := hSw.q.cell 0; have q1 : wz.cell? ⟨qb, 1, none⟩ = some (.int .i64 1) := hSw.q.cell 1; have q2 : wz.cell? ⟨qb, 2, none⟩ = some (.string t) := hSw.q.cell 2; have q3 : wz.cell? ⟨qb, 3, none⟩ = some (.string k) := hSw.q.cell 3; have q4 : wz.cell? ⟨qb, 4, none⟩ = some (.string n) := hSw.q.cell 4; have m1 : wz.cell? ⟨g, 1, none⟩ = some (.string xa) := hSw.m.cell 1; go_simp; try (with_reducible rfl)
  try simp only [Act.put, List.setIfInBounds_toArray, List.set_cons_zero, List.set_cons_succ, List.getElem_toArray, List.getElem_cons_succ, List.getElem_cons_zero]
  refine take_at (some 71) (i := 8) (v := ?_) rfl rfl (by kernel_rfl) (by kernel_rfl) (by kernel_rfl) (fun _ _ _ h => h) (Or.inl ⟨by kernel_rfl, ?_⟩) hHeld ?_
  rotate_left
  · intro wz hSw; go_simp; try (with_reducible rfl)
  try simp only [Act.put, List.setIfInBounds_toArray, List.set_cons_zero, List.set_cons_succ, List.getElem_toArray, List.getElem_cons_succ, List.getElem_cons_zero]
  refine take_at (some 72) (i := 9) (v := ?_) rfl rfl (by kernel_rfl) (by kernel_rfl) (by kernel_rfl) (fun _ _ _ h => h) (Or.inl ⟨by kernel_rfl, ?_⟩) hHeld ?_
  rotate_left
  · intro wz hSw; have q0 : wz.cell? ⟨qb, 0, none⟩ = some (.pointer (some ⟨rb, 0, none⟩)) := hSw.q.cell 0; have q1 : wz.cell? ⟨qb, 1, none⟩ = some (.int .i64 1) := hSw.q.cell 1; have q2 : wz.cell? ⟨qb, 2, none⟩ = some (.string t) := hSw.q.cell 2; have q3 : wz.cell? ⟨qb, 3, none⟩ = some (.string k) := hSw.q.cell 3; have q4 : wz.cell? ⟨qb, 4, none⟩ = some (.string n) := hSw.q.cell 4; have m1 : wz.cell? ⟨g, 1, none⟩ = some (.string xa) := hSw.m.cell 1; go_simp; try (with_reducible rfl)
  try simp only [Act.put, List.setIfInBounds_toArray, List.set_cons_zero, List.set_cons_succ, List.getElem_toArray, List.getElem_cons_succ, List.getElem_cons_zero]
  refine take_at (some 73) (i := 10) (v := ?_) rfl rfl (by kernel_rfl) (by kernel_rfl) (by kernel_rfl) (fun _ _ _ h => h) (Or.inl ⟨by kernel_rfl, ?_⟩) hHeld ?_
  rotate_left
  · intro wz hSw; have q0 : wz.cell? ⟨qb, 0, none⟩ = some (.pointer (some ⟨rb, 0, none⟩)) := hSw.q.cell 0; have q1 : wz.cell? ⟨qb, 1, none⟩ = some (.int .i64 1) := hSw.q.cell 1; have q2 : wz.cell? ⟨qb, 2, none⟩ = some (.string t) := hSw.q.cell 2; have q3 : wz.cell? ⟨qb, 3, none⟩ = some (.string k) := hSw.q.cell 3; have q4 : wz.cell? ⟨qb, 4, none⟩ = some (.string n) := hSw.q.cell 4; have m1 : wz.cell? ⟨g, 1, none⟩ = some (.string xa) := hSw.m.cell 1; go_simp; try (with_reducible rfl)
  try simp only [Act.put, List.setIfInBounds_toArray, List.set_cons_zero, List.set_cons_succ, List.getElem_toArray, List.getElem_cons_succ, List.getElem_cons_zero]
  refine take_at (some 74) (i := 11) (v := ?_) rfl rfl (by kernel_rfl) (by kernel_rfl) (by kernel_rfl) (fun _ _ _ h => h) (Or.inl ⟨by kernel_rfl, ?_⟩) hHeld ?_
  rotate_left
  · intro wz hSw; have q0 : wz.cell? ⟨qb, 0, none⟩ = some (.pointer (some ⟨rb, 0, none⟩)) := hSw.q.cell 0; have q1 : wz.cell? ⟨qb, 1, none⟩ = some (.int .i64 1) := hSw.q.cell 1; have q2 : wz.cell? ⟨qb, 2, none⟩ = some (.string t) := hSw.q.cell 2; have q3 : wz.cell? ⟨qb, 3, none⟩ = some (.string k) := hSw.q.cell 3; have q4 : wz.cell? ⟨qb, 4, none⟩ = some (.string n) := hSw.q.cell 4; have m1 : wz.cell? ⟨g, 1, none⟩ = some (.string xa) := hSw.m.cell 1; go_simp; try (with_reducible rfl)
  try simp only [Act.put, List.setIfInBounds_toArray, List.set_cons_zero, List.set_cons_succ, List.getElem_toArray, List.getElem_cons_succ, List.getElem_cons_zero]
  refine take_at (some 75) (i := 12) (v := ?_) rfl rfl (by kernel_rfl) (by kernel_rfl) (by kernel_rfl) (fun _ _ _ h => h) (Or.inl ⟨by kernel_rfl, ?_⟩) hHeld ?_
  rotate_left
  · intro wz hSw; go_simp; try (with_reducible rfl)
  try simp only [Act.put, List.setIfInBounds_toArray, List.set_cons_zero, List.set_cons_succ, List.getElem_toArray, List.getElem_cons_succ, List.getElem_cons_zero]
  refine take_at (some 76) (i := 13) (v := ?_) rfl rfl (by kernel_rfl) (by kernel_rfl) (by kernel_rfl) (fun _ _ _ h => h) (Or.inl ⟨by kernel_rfl, ?_⟩) hHeld ?_
  rotate_left
  · intro wz hSw; have q0 : wz.cell? ⟨qb, 0, none⟩ = some (.pointer (some ⟨rb, 0, none⟩)) := hSw.q.cell 0; have q1 : wz.cell? ⟨qb, 1, none⟩ = some (.int .i64 1) := hSw.q.cell 1; have q2 : wz.cell? ⟨qb, 2, none⟩ = some (.string t) := hSw.q.cell 2; have q3 : wz.cell? ⟨qb, 3, none⟩ = some (.string k) := hSw.q.cell 3; have q4 : wz.cell? ⟨qb, 4, none⟩ = some (.string n) := hSw.q.cell 4; have m1 : wz.cell? ⟨g, 1, none⟩ = some (.string xa) := hSw.m.cell 1; go_simp; try (with_reducible rfl)
  try simp only [Act.put, List.setIfInBounds_toArray, List.set_cons_zero, List.set_cons_succ, List.getElem_toArray, List.getElem_cons_succ, List.getElem_cons_zero]
  refine take_at (some 77) (i := 14) (v := ?_) rfl rfl (by kernel_rfl) (by kernel_rfl) (by kernel_rfl) (fun _ _ _ h => h) (Or.inl ⟨by kernel_rfl, ?_⟩) hHeld ?_
  rotate_left
  · intro wz hSw; have q0 : wz.cell? ⟨qb, 0, none⟩ = some (.pointer (some ⟨rb, 0, none⟩)) := hSw.q.cell 0; have q1 : wz.cell? ⟨qb, 1, none⟩ = some (.int .i64 1) := hSw.q.cell 1; have q2 : wz.cell? ⟨qb, 2, none⟩ = some (.string t) := hSw.q.cell 2; have q3 : wz.cell? ⟨qb, 3, none⟩ = some (.string k) := hSw.q.cell 3; have q4 : wz.cell? ⟨qb, 4, none⟩ = some (.string n) := hSw.q.cell 4; have m1 : wz.cell? ⟨g, 1, none⟩ = some (.string xa) := hSw.m.cell 1; go_simp; try (with_reducible rfl)
  try simp only [Act.put, List.setIfInBounds_toArray, List.set_cons_zero, List.set_cons_succ, List.getElem_toArray, List.getElem_cons_succ, List.getElem_cons_zero]
  refine take_at (some 78) (i := 15) (v := ?_) rfl rfl (by kernel_rfl) (by kernel_rfl) (by kernel_rfl) (fun _ _ _ h => h) (Or.inl ⟨by kernel_rfl, ?_⟩) hHeld ?_
  rotate_left
  · intro wz hSw; have q0 : wz.cell? ⟨qb, 0, none⟩ = some (.pointer (some ⟨rb, 0, none⟩)) := hSw.q.cell 0; have q1 : wz.cell? ⟨qb, 1, none⟩ = some (.int .i64 1) := hSw.q.cell 1; have q2 : wz.cell? ⟨qb, 2, none⟩ = some (.string t) := hSw.q.cell 2; have q3 : wz.cell? ⟨qb, 3, none⟩ = some (.string k) := hSw.q.cell 3; have q4 : wz.cell? ⟨qb, 4, none⟩ = some (.string n) := hSw.q.cell 4; have m1 : wz.cell? ⟨g, 1, none⟩ = some (.string xa) := hSw.m.cell 1; go_simp; try (with_reducible rfl)
  try simp only [Act.put, List.setIfInBounds_toArray, List.set_cons_zero, List.set_cons_succ, List.getElem_toArray, List.getElem_cons_succ, List.getElem_cons_zero]
  refine take_at (some 79) (i := 16) (v := ?_) rfl rfl (by kernel_rfl) (by kernel_rfl) (by kernel_rfl) (fun _ _ _ h => h) (Or.inl ⟨by kernel_rfl, ?_⟩) hHeld ?_
  rotate_left
  · intro wz hSw; have q0 : wz.cell? ⟨qb, 0, none⟩ = some (.pointer (some ⟨rb, 0, none⟩)) := hSw.q.cell 0; have q1 : wz.cell? ⟨qb, 1, none⟩ = some (.int .i64 1) := hSw.q.cell 1; have q2 : wz.cell? ⟨qb, 2, none⟩ = some (.string t) := hSw.q.cell 2; have q3 : wz.cell? ⟨qb, 3, none⟩ = some (.string k) := hSw.q.cell 3; have q4 : wz.cell? ⟨qb, 4, none⟩ = some (.string n) := hSw.q.cell 4; have m1 : wz.cell? ⟨g, 1, none⟩ = some (.string xa) := hSw.m.cell 1; go_simp; try (with_reducible rfl)
  try simp only [Act.put, List.setIfInBounds_toArray, List.set_cons_zero, List.set_cons_succ, List.getElem_toArray, List.getElem_cons_succ, List.getElem_cons_zero]
  refine take_at (some 80) (i := 17) (v := ?_) rfl rfl (by kernel_rfl) (by kernel_rfl) (by kernel_rfl) (fun _ _ _ h => h) (Or.inl ⟨by kernel_rfl, ?_⟩) hHeld ?_
  rotate_left
  · intro wz hSw; have q0 : wz.cell? ⟨qb, 0, none⟩ = some (.pointer (some ⟨rb, 0, none⟩)) := hSw.q.cell 0; have q1 : wz.cell? ⟨qb, 1, none⟩ = some (.int .i64 1) := hSw.q.cell 1; have q2 : wz.cell? ⟨qb, 2, none⟩ = some (.string t) := hSw.q.cell 2; have q3 : wz.cell? ⟨qb, 3, none⟩ = some (.string k) := hSw.q.cell 3; have q4 : wz.cell? ⟨qb, 4, none⟩ = some (.string n) := hSw.q.cell 4; have m1 : wz.cell? ⟨g, 1, none⟩ = some (.string xa) := hSw.m.cell 1; go_simp; try (with_reducible rfl)
  try simp only [Act.put, List.setIfInBounds_toArray, List.set_cons_zero, List.set_cons_succ, List.getElem_toArray, List.getElem_cons_succ, List.getElem_cons_zero]
  refine take_at (some 81) (i := 18) (v := ?_) rfl rfl (by kernel_rfl) (by kernel_rfl) (by kernel_rfl) (fun _ _ _ h => h) (Or.inl ⟨by kernel_rfl, ?_⟩) hHeld ?_
  rotate_left
  · intro wz hSw; go_simp; try (with_reducible rfl)
  try simp only [Act.put, List.setIfInBounds_toArray, List.set_cons_zero, List.set_cons_succ, List.getElem_toArray, List.getElem_cons_succ, List.getElem_cons_zero]
  refine wpAnyH_ready (rs := [19]) (by kernel_rfl) (by simp) (AllReadyH.cons rfl (fun K hK => ?_) AllReadyH.nil)
  rw [if_pos (by kernel_rfl)]
  go_simp
  refine (HCK.out _ (hHeld.k)).mono ?_
  rintro e u5 ⟨rfl, hb5⟩
  try dsimp only
  refine hK.out _ _ (hHeld.on hb5) (fun hHeld => ?_)
  try simp only [Act.put, List.setIfInBounds_toArray, List.set_cons_zero, List.set_cons_succ, List.getElem_toArray, List.getElem_cons_succ, List.getElem_cons_zero]
  refine take_at (some 10) (i := 20) (v := ?_) rfl rfl (by kernel_rfl) (by kernel_rfl) (by kernel_rfl) (fun _ _ _ h => h) (Or.inl ⟨by kernel_rfl, ?_⟩) hHeld ?_
  rotate_left
  · intro wz hSw; go_simp; try (with_reducible rfl)
  try simp only [Act.put, List.setIfInBounds_toArray, List.set_cons_zero, List.set_cons_succ, List.getElem_toArray, List.getElem_cons_succ, List.getElem_cons_zero]
  refine wpAnyH_done (by kernel_rfl) ?_ _
  refine gen_qS (fun y => Rk w y qb g #[.pointer (some ⟨rb, 0, none⟩), .int .i64 1, .string t, .string k, .string n] #[.int .i64 3, .string xa, .string xb, .int .i64 xn, .int .i64 xm] #[.int .i64 0, .string ⟨#[]⟩, .string ⟨#[]⟩, .int .i64 0, .int .i64 0]) hHeld (fun a5 ha5 => ?_)
  have HA5 := Lib.hid ha5
  clear ha5 hHeld HR
  go_wp2_with (go_at_call 67; (with_reducible refine (rqrefuse_ok qb rb 1 er t k n _ HA5.out.q).mono ?_); rintro e u6 ⟨rfl, hq, hk6⟩; have HR6 := Lib.hid (HA5.out.ke (by have := HN.out; omega) hk6 hq); clear hq hk6; have z0 : u6.cell? ⟨(g + 1), 0, none⟩ = some (.int .i64 0) := HR6.out.z.cell 0; have z1 : u6.cell? ⟨(g + 1), 1, none⟩ = some (.string ⟨#[]⟩) := HR6.out.z.cell 1; have z2 : u6.cell? ⟨(g + 1), 2, none⟩ = some (.string ⟨#[]⟩) := HR6.out.z.cell 2; have z3 : u6.cell? ⟨(g + 1), 3, none⟩ = some (.int .i64 0) := HR6.out.z.cell 3; have z4 : u6.cell? ⟨(g + 1), 4, none⟩ = some (.int .i64 0) := HR6.out.z.cell 4; have f0 := HR6.out.z.frozen 0; have f1 := HR6.out.z.frozen 1; have f2 := HR6.out.z.frozen 2; have f3 := HR6.out.z.frozen 3; have f4 := HR6.out.z.frozen 4)
  have HU : Bk (((((u6.setCell ⟨(g + 1), 0, none⟩ (.int .i64 5)).setCell ⟨(g + 1), 1, none⟩ (.string ⟨#[]⟩)).setCell ⟨(g + 1), 2, none⟩ (.string ⟨#[]⟩)).setCell ⟨(g + 1), 3, none⟩ (.int .i64 er)).setCell ⟨(g + 1), 4, none⟩ (.int .i64 0)) (g + 1) 55 #[.int .i64 5, .string ⟨#[]⟩, .string ⟨#[]⟩, .int .i64 er, .int .i64 0] := HR6.out.z.set5 _ _ _ _ _
  have p0 := HU.cell 0; have p1 := HU.cell 1; have p2 := HU.cell 2; have p3 := HU.cell 3; have p4 := HU.cell 4
  refine bodyPost_ret (v := .tuple #[.agg #[.int .i64 5, .string ⟨#[]⟩, .string ⟨#[]⟩, .int .i64 er, .int .i64 0], .bool true]) ?_ rfl ⟨rfl, HR6.out.q.far5 (by have := HN.out; omega) _ _ _ _ _, ke_set5 HR6.out.k (by rw [HG.out]; omega) _ _ _ _ _⟩
  simp [results, Tryz.f28, go_sem, p0, p1, p2, p3, p4]

set_option maxRecDepth 100000 in
set_option maxHeartbeats 4000000 in
theorem rhear_yes (qb rb : Nat) (t k n : ByteArray) (xn xm now : Int) (xa xb nn : ByteArray) (w : World) (hck : ∀ u, Ke [qb] w u → Calls Tryz.prog 66 #[.pointer (some ⟨rb, 0, none⟩), .string t, .string k, .string n, .string xa, .int .i64 now] u fun e u' => e = .returned (.int .i64 0) ∧ Below u.heap.size u u') (h : Bk w qb 116 #[.pointer (some ⟨rb, 0, none⟩), .int .i64 1, .string t, .string k, .string n]) :
    Calls Tryz.prog 28 #[.pointer (some ⟨qb, 0, none⟩), .agg #[.int .i64 3, .string xa, .string xb, .int .i64 xn, .int .i64 xm], .int .i64 now, .string nn] w fun e u' => e = .returned (.tuple #[.agg #[.int .i64 4, .string ⟨#[]⟩, .string ⟨#[]⟩, .int .i64 0, .int .i64 0], .bool true]) ∧ Bk u' qb 116 #[.pointer (some ⟨rb, 0, none⟩), .int .i64 2, .string t, .string k, .string n] ∧ Ke [qb] w u' := by
  have HN := Lib.hid h.lt
  obtain ⟨w3, hw3⟩ : ∃ w3, (w.alloc (.cells #[.int .i64 3, .string xa, .string xb, .int .i64 xn, .int .i64 xm] 55)).alloc (.cells #[.int .i64 0, .string ⟨#[]⟩, .string ⟨#[]⟩, .int .i64 0, .int .i64 0] 55) = w3 := ⟨_, rfl⟩
  have HR := Lib.hid (show Rk w w3 qb w.heap.size #[.pointer (some ⟨rb, 0, none⟩), .int .i64 1, .string t, .string k, .string n] #[.int .i64 3, .string xa, .string xb, .int .i64 xn, .int .i64 xm] #[.int .i64 0, .string ⟨#[]⟩, .string ⟨#[]⟩, .int .i64 0, .int .i64 0] by rw [← hw3]; exact Rk.new w qb _ _ h)
  have HCK := Lib.hid hck
  clear h hck
  go_enter Tryz.func28, Tryz.ntmps28
  go_upto_region 1 with fail
  try rw [hw3]
  clear hw3
  obtain ⟨g, hg⟩ : ∃ g, w.heap.size = g := ⟨_, rfl⟩
  have HG := Lib.hid hg
  simp only [hg] at HR HN ⊢
  clear hg
  have q0 : w3.cell? ⟨qb, 0, none⟩ = some (.pointer (some ⟨rb, 0, none⟩)) := HR.out.q.cell 0
  have q1 : w3.cell? ⟨qb, 1, none⟩ = some (.int .i64 1) := HR.out.q.cell 1
  have q2 : w3.cell? ⟨qb, 2, none⟩ = some (.string t) := HR.out.q.cell 2
  have q3 : w3.cell? ⟨qb, 3, none⟩ = some (.string k) := HR.out.q.cell 3
  have q4 : w3.cell? ⟨qb, 4, none⟩ = some (.string n) := HR.out.q.cell 4
  have m0 : w3.cell? ⟨g, 0, none⟩ = some (.int .i64 3) := HR.out.m.cell 0
  have m1 : w3.cell? ⟨g, 1, none⟩ = some (.string xa) := HR.out.m.cell 1
  have m2 : w3.cell? ⟨g, 2, none⟩ = some (.string xb) := HR.out.m.cell 2
  have m3 : w3.cell? ⟨g, 3, none⟩ = some (.int .i64 xn) := HR.out.m.cell 3
  have m4 : w3.cell? ⟨g, 4, none⟩ = some (.int .i64 xm) := HR.out.m.cell 4
  go_upto_region 10 with fail
  clear q0 q1 q2 q3 q4 m0 m1 m2 m3 m4
  try simp only [List.cons_append, List.nil_append]
  try simp only [List.cons_append, List.nil_append]
  refine wp_region_held_drew (S := fun wz => Rk w wz qb g #[.pointer (some ⟨rb, 0, none⟩), .int .i64 1, .string t, .string k, .string n] #[.int .i64 3, .string xa, .string xb, .int .i64 xn, .int .i64 xm] #[.int .i64 0, .string ⟨#[]⟩, .string ⟨#[]⟩, .int .i64 0, .int .i64 0]) (by kernel_rfl) (HR.out.on (Below.refl _ _).drew) (fun hHeld => ?_)
  refine take_at (some 63) (i := 0) (v := ?_) rfl rfl (by kernel_rfl) (by kernel_rfl) (by kernel_rfl) (fun _ _ _ h => h) (Or.inl ⟨by kernel_rfl, ?_⟩) hHeld ?_
  rotate_left
  · intro wz hSw; go_simp; try (with_reducible rfl)
  try simp only [Act.put, List.setIfInBounds_toArray, List.set_cons_zero, List.set_cons_succ, List.getElem_toArray, List.getElem_cons_succ, List.getElem_cons_zero]
  refine take_at (some 64) (i := 1) (v := ?_) rfl rfl (by kernel_rfl) (by kernel_rfl) (by kernel_rfl) (fun _ _ _ h => h) (Or.inl ⟨by kernel_rfl, ?_⟩) hHeld ?_
  rotate_left
  · intro wz hSw; have q0 : wz.cell? ⟨qb, 0, none⟩ = some (.pointer (some ⟨rb, 0, none⟩)) := hSw.q.cell 0; have q1 : wz.cell? ⟨qb, 1, none⟩ = some (.int .i64 1) := hSw.q.cell 1; have q2 : wz.cell? ⟨qb, 2, none⟩ = some (.string t) := hSw.q.cell 2; have q3 : wz.cell? ⟨qb, 3, none⟩ = some (.string k) := hSw.q.cell 3; have q4 : wz.cell? ⟨qb, 4, none⟩ = some (.string n) := hSw.q.cell 4; have m1 : wz.cell? ⟨g, 1, none⟩ = some (.string xa) := hSw.m.cell 1; go_simp; try (with_reducible rfl)
  try simp only [Act.put, List.setIfInBounds_toArray, List.set_cons_zero, List.set_cons_succ, List.getElem_toArray, List.getElem_cons_succ, List.getElem_cons_zero]
  refine take_at (some 65) (i := 2) (v := ?_) rfl rfl (by kernel_rfl) (by kernel_rfl) (by kernel_rfl) (fun _ _ _ h => h) (Or.inl ⟨by kernel_rfl, ?_⟩) hHeld ?_
  rotate_left
  · intro wz hSw; have q0 : wz.cell? ⟨qb, 0, none⟩ = some (.pointer (some ⟨rb, 0, none⟩)) := hSw.q.cell 0; have q1 : wz.cell? ⟨qb, 1, none⟩ = some (.int .i64 1) := hSw.q.cell 1; have q2 : wz.cell? ⟨qb, 2, none⟩ = some (.string t) := hSw.q.cell 2; have q3 : wz.cell? ⟨qb, 3, none⟩ = some (.string k) := hSw.q.cell 3; have q4 : wz.cell? ⟨qb, 4, none⟩ = some (.string n) := hSw.q.cell 4; have m1 : wz.cell? ⟨g, 1, none⟩ = some (.string xa) := hSw.m.cell 1; go_simp; try (with_reducible rfl)
  try simp only [Act.put, List.setIfInBounds_toArray, List.set_cons_zero, List.set_cons_succ, List.getElem_toArray, List.getElem_cons_succ, List.getElem_cons_zero]
  refine take_at (some 66) (i := 3) (v := ?_) rfl rfl (by kernel_rfl) (by kernel_rfl) (by kernel_rfl) (fun _ _ _ h => h) (Or.inl ⟨by kernel_rfl, ?_⟩) hHeld ?_
  rotate_left
  · intro wz hSw; have q0 : wz.cell? ⟨qb, 0, none⟩ = some (.pointer (some ⟨rb, 0, none⟩)) := hSw.q.cell 0; have q1 : wz.cell? ⟨qb, 1, none⟩ = some (.int .i64 1) := hSw.q.cell 1; have q2 : wz.cell? ⟨qb, 2, none⟩ = some (.string t) := hSw.q.cell 2; have q3 : wz.cell? ⟨qb, 3, none⟩ = some (.string k) := hSw.q.cell 3; have q4 : wz.cell? ⟨qb, 4, none⟩ = some (.string n) := hSw.q.cell 4; have m1 : wz.cell? ⟨g, 1, none⟩ = some (.string xa) := hSw.m.cell 1; go_simp; try (with_reducible rfl)
  try simp only [Act.put, List.setIfInBounds_toArray, List.set_cons_zero, List.set_cons_succ, List.getElem_toArray, List.getElem_cons_succ, List.getElem_cons_zero]
  refine take_at (some 67) (i := 4) (v := ?_) rfl rfl (by kernel_rfl) (by kernel_rfl) (by kernel_rfl) (fun _ _ _ h => h) (Or.inl ⟨by kernel_rfl, ?_⟩) hHeld ?_
  rotate_left
  · intro wz hSw; go_simp; try (with_reducible rfl)
  try simp only [Act.put, List.setIfInBounds_toArray, List.set_cons_zero, List.set_cons_succ, List.getElem_toArray, List.getElem_cons_succ, List.getElem_cons_zero]
  refine take_at (some 68) (i := 5) (v := ?_) rfl rfl (by kernel_rfl) (by kernel_rfl) (by kernel_rfl) (fun _ _ _ h => h) (Or.inl ⟨by kernel_rfl, ?_⟩) hHeld ?_
  rotate_left
  · intro wz hSw; have q0 : wz.cell? ⟨qb, 0, none⟩ = some (.pointer (some ⟨rb, 0, none⟩)) := hSw.q.cell 0; have q1 : wz.cell? ⟨qb, 1, none⟩ = some (.int .i64 1) := hSw.q.cell 1; have q2 : wz.cell? ⟨qb, 2, none⟩ = some (.string t) := hSw.q.cell 2; have q3 : wz.cell? ⟨qb, 3, none⟩ = some (.string k) := hSw.q.cell 3; have q4 : wz.cell? ⟨qb, 4, none⟩ = some (.string n) := hSw.q.cell 4; have m1 : wz.cell? ⟨g, 1, none⟩ = some (.string xa) := hSw.m.cell 1; go_simp; try (with_reducible rfl)
  try simp only [Act.put, List.setIfInBounds_toArray, List.set_cons_zero, List.set_cons_succ, List.getElem_toArray, List.getElem_cons_succ, List.getElem_cons_zero]
  refine take_at (some 69) (i := 6) (v := ?_) rfl rfl (by kernel_rfl) (by kernel_rfl) (by kernel_rfl) (fun _ _ _ h => h) (Or.inl ⟨by kernel_rfl, ?_⟩) hHeld ?_
  rotate_left
  · intro wz hSw; have q0 : wz.cell? ⟨qb, 0, none⟩ = some (.pointer (some ⟨rb, 0, none⟩)) := hSw.q.cell 0; have q1 : wz.cell? ⟨qb, 1, none⟩ = some (.int .i64 1) := hSw.q.cell 1; have q2 : wz.cell? ⟨qb, 2, none⟩ = some (.string t) := hSw.q.cell 2; have q3 : wz.cell? ⟨qb, 3, none⟩ = some (.string k) := hSw.q.cell 3; have q4 : wz.cell? ⟨qb, 4, none⟩ = some (.string n) := hSw.q.cell 4; have m1 : wz.cell? ⟨g, 1, none⟩ = some (.string xa) := hSw.m.cell 1; go_simp; try (with_reducible rfl)
  try simp only [Act.put, List.setIfInBounds_toArray, List.set_cons_zero, List.set_cons_succ, List.getElem_toArray, List.getElem_cons_succ, List.getElem_cons_zero]
  refine take_at (some 70) (i := 7) (v := ?_) rfl rfl (by kernel_rfl) (by kernel_rfl) (by kernel_rfl) (fun _ _ _ h => h) (Or.inl ⟨by kernel_rfl, ?_⟩) hHeld ?_
  rotate_left
  · intro wz hSw; have q0 : wz.cell? ⟨qb, 0, none⟩ = some (.pointer (some ⟨rb, 0, none⟩)) := hSw.q.cell 0; have q1 : wz.cell? ⟨qb, 1, none⟩ = some (.int .i64 1) := hSw.q.cell 1; have q2 : wz.cell? ⟨qb, 2, none⟩ = some (.string t) := hSw.q.cell 2; have q3 : wz.cell? ⟨qb, 3, none⟩ = some (.string k) := hSw.q.cell 3; have q4 : wz.cell? ⟨qb, 4, none⟩ = some (.string n) := hSw.q.cell 4; have m1 : wz.cell? ⟨g, 1, none⟩ = some (.string xa) := hSw.m.cell 1; go_simp; try (with_reducible rfl)
  try simp only [Act.put, List.setIfInBounds_toArray, List.set_cons_zero, List.set_cons_succ, List.getElem_toArray, List.getElem_cons_succ, List.getElem_cons_zero]
  refine take_at (some 71) (i := 8) (v := ?_) rfl rfl (by kernel_rfl) (by kernel_rfl) (by kernel_rfl) (fun _ _ _ h => h) (Or.inl ⟨by kernel_rfl, ?_⟩) hHeld ?_
  rotate_left
  · intro wz hSw; go_simp; try (with_reducible rfl)
  try simp only [Act.put, List.setIfInBounds_toArray, List.set_cons_zero, List.set_cons_succ, List.getElem_toArray, List.getElem_cons_succ, List.getElem_cons_zero]
  refine take_at (some 72) (i := 9) (v := ?_) rfl rfl (by kernel_rfl) (by kernel_rfl) (by kernel_rfl) (fun _ _ _ h => h) (Or.inl ⟨by kernel_rfl, ?_⟩) hHeld ?_
  rotate_left
  · intro wz hSw; have q0 : wz.cell? ⟨qb, 0, none⟩ = some (.pointer (some ⟨rb, 0, none⟩)) := hSw.q.cell 0; have q1 : wz.cell? ⟨qb, 1, none⟩ = some (.int .i64 1) := hSw.q.cell 1; have q2 : wz.cell? ⟨qb, 2, none⟩ = some (.string t) := hSw.q.cell 2; have q3 : wz.cell? ⟨qb, 3, none⟩ = some (.string k) := hSw.q.cell 3; have q4 : wz.cell? ⟨qb, 4, none⟩ = some (.string n) := hSw.q.cell 4; have m1 : wz.cell? ⟨g, 1, none⟩ = some (.string xa) := hSw.m.cell 1; go_simp; try (with_reducible rfl)
  try simp only [Act.put, List.setIfInBounds_toArray, List.set_cons_zero, List.set_cons_succ, List.getElem_toArray, List.getElem_cons_succ, List.getElem_cons_zero]
  refine take_at (some 73) (i := 10) (v := ?_) rfl rfl (by kernel_rfl) (by kernel_rfl) (by kernel_rfl) (fun _ _ _ h => h) (Or.inl ⟨by kernel_rfl, ?_⟩) hHeld ?_
  rotate_left
  · intro wz hSw; have q0 : wz.cell? ⟨qb, 0, none⟩ = some (.pointer (some ⟨rb, 0, none⟩)) := hSw.q.cell 0; have q1 : wz.cell? ⟨qb, 1, none⟩ = some (.int .i64 1) := hSw.q.cell 1; have q2 : wz.cell? ⟨qb, 2, none⟩ = some (.string t) := hSw.q.cell 2; have q3 : wz.cell? ⟨qb, 3, none⟩ = some (.string k) := hSw.q.cell 3; have q4 : wz.cell? ⟨qb, 4, none⟩ = some (.string n) := hSw.q.cell 4; have m1 : wz.cell? ⟨g, 1, none⟩ = some (.string xa) := hSw.m.cell 1; go_simp; try (with_reducible rfl)
  try simp only [Act.put, List.setIfInBounds_toArray, List.set_cons_zero, List.set_cons_succ, List.getElem_toArray, List.getElem_cons_succ, List.getElem_cons_zero]
  refine take_at (some 74) (i := 11) (v := ?_) rfl rfl (by kernel_rfl) (by kernel_rfl) (by kernel_rfl) (fun _ _ _ h => h) (Or.inl ⟨by kernel_rfl, ?_⟩) hHeld ?_
  rotate_left
  · intro wz hSw; have q0 : wz.cell? ⟨qb, 0, none⟩ = some (.pointer (some ⟨rb, 0, none⟩)) := hSw.q.cell 0; have q1 : wz.cell? ⟨qb, 1, none⟩ = some (.int .i64 1) := hSw.q.cell 1; have q2 : wz.cell? ⟨qb, 2, none⟩ = some (.string t) := hSw.q.cell 2; have q3 : wz.cell? ⟨qb, 3, none⟩ = some (.string k) := hSw.q.cell 3; have q4 : wz.cell? ⟨qb, 4, none⟩ = some (.string n) := hSw.q.cell 4; have m1 : wz.cell? ⟨g, 1, none⟩ = some (.string xa) := hSw.m.cell 1; go_simp; try (with_reducible rfl)
  try simp only [Act.put, List.setIfInBounds_toArray, List.set_cons_zero, List.set_cons_succ, List.getElem_toArray, List.getElem_cons_succ, List.getElem_cons_zero]
  refine take_at (some 75) (i := 12) (v := ?_) rfl rfl (by kernel_rfl) (by kernel_rfl) (by kernel_rfl) (fun _ _ _ h => h) (Or.inl ⟨by kernel_rfl, ?_⟩) hHeld ?_
  rotate_left
  · intro wz hSw; go_simp; try (with_reducible rfl)
  try simp only [Act.put, List.setIfInBounds_toArray, List.set_cons_zero, List.set_cons_succ, List.getElem_toArray, List.getElem_cons_succ, List.getElem_cons_zero]
  refine take_at (some 76) (i := 13) (v := ?_) rfl rfl (by kernel_rfl) (by kernel_rfl) (by kernel_rfl) (fun _ _ _ h => h) (Or.inl ⟨by kernel_rfl, ?_⟩) hHeld ?_
  rotate_left
  · intro wz hSw; have q0 : wz.cell? ⟨qb, 0, none⟩ = some (.pointer (some ⟨rb, 0, none⟩)) := hSw.q.cell 0; have q1 : wz.cell? ⟨qb, 1, none⟩ = some (.int .i64 1) := hSw.q.cell 1; have q2 : wz.cell? ⟨qb, 2, none⟩ = some (.string t) := hSw.q.cell 2; have q3 : wz.cell? ⟨qb, 3, none⟩ = some (.string k) := hSw.q.cell 3; have q4 : wz.cell? ⟨qb, 4, none⟩ = some (.string n) := hSw.q.cell 4; have m1 : wz.cell? ⟨g, 1, none⟩ = some (.string xa) := hSw.m.cell 1; go_simp; try (with_reducible rfl)
  try simp only [Act.put, List.setIfInBounds_toArray, List.set_cons_zero, List.set_cons_succ, List.getElem_toArray, List.getElem_cons_succ, List.getElem_cons_zero]
  refine take_at (some 77) (i := 14) (v := ?_) rfl rfl (by kernel_rfl) (by kernel_rfl) (by kernel_rfl) (fun _ _ _ h => h) (Or.inl ⟨by kernel_rfl, ?_⟩) hHeld ?_
  rotate_left
  · intro wz hSw; have q0 : wz.cell? ⟨qb, 0, none⟩ = some (.pointer (some ⟨rb, 0, none⟩)) := hSw.q.cell 0; have q1 : wz.cell? ⟨qb, 1, none⟩ = some (.int .i64 1) := hSw.q.cell 1; have q2 : wz.cell? ⟨qb, 2, none⟩ = some (.string t) := hSw.q.cell 2; have q3 : wz.cell? ⟨qb, 3, none⟩ = some (.string k) := hSw.q.cell 3; have q4 : wz.cell? ⟨qb, 4, none⟩ = some (.string n) := hSw.q.cell 4; have m1 : wz.cell? ⟨g, 1, none⟩ = some (.string xa) := hSw.m.cell 1; go_simp; try (with_reducible rfl)
  try simp only [Act.put, List.setIfInBounds_toArray, List.set_cons_zero, List.set_cons_succ, List.getElem_toArray, List.getElem_cons_succ, List.getElem_cons_zero]
  refine take_at (some 78) (i := 15) (v := ?_) rfl rfl (by kernel_rfl) (by kernel_rfl) (by kernel_rfl) (fun _ _ _ h => h) (Or.inl ⟨by kernel_rfl, ?_⟩) hHeld ?_
  rotate_left
  · intro wz hSw; have q0 : wz.cell? ⟨qb, 0, none⟩ = some (.pointer (some ⟨rb, 0, none⟩)) := hSw.q.cell 0; have q1 : wz.cell? ⟨qb, 1, none⟩ = some (.int .i64 1) := hSw.q.cell 1; have q2 : wz.cell? ⟨qb, 2, none⟩ = some (.string t) := hSw.q.cell 2; have q3 : wz.cell? ⟨qb, 3, none⟩ = some (.string k) := hSw.q.cell 3; have q4 : wz.cell? ⟨qb, 4, none⟩ = some (.string n) := hSw.q.cell 4; have m1 : wz.cell? ⟨g, 1, none⟩ = some (.string xa) := hSw.m.cell 1; go_simp; try (with_reducible rfl)
  try simp only [Act.put, List.setIfInBounds_toArray, List.set_cons_zero, List.set_cons_succ, List.getElem_toArray, List.getElem_cons_succ, List.getElem_cons_zero]
  refine take_at (some 79) (i := 16) (v := ?_) rfl rfl (by kernel_rfl) (by kernel_rfl) (by kernel_rfl) (fun _ _ _ h => h) (Or.inl ⟨by kernel_rfl, ?_⟩) hHeld ?_
  rotate_left
  · intro wz hSw; have q0 : wz.cell? ⟨qb, 0, none⟩ = some (.pointer (some ⟨rb, 0, none⟩)) := hSw.q.cell 0; have q1 : wz.cell? ⟨qb, 1, none⟩ = some (.int .i64 1) := hSw.q.cell 1; have q2 : wz.cell? ⟨qb, 2, none⟩ = some (.string t) := hSw.q.cell 2; have q3 : wz.cell? ⟨qb, 3, none⟩ = some (.string k) := hSw.q.cell 3; have q4 : wz.cell? ⟨qb, 4, none⟩ = some (.string n) := hSw.q.cell 4; have m1 : wz.cell? ⟨g, 1, none⟩ = some (.string xa) := hSw.m.cell 1; go_simp; try (with_reducible rfl)
  try simp only [Act.put, List.setIfInBounds_toArray, List.set_cons_zero, List.set_cons_succ, List.getElem_toArray, List.getElem_cons_succ, List.getElem_cons_zero]
  refine take_at (some 80) (i := 17) (v := ?_) rfl rfl (by kernel_rfl) (by kernel_rfl) (by kernel_rfl) (fun _ _ _ h => h) (Or.inl ⟨by kernel_rfl, ?_⟩) hHeld ?_
  rotate_left
  · intro wz hSw; have q0 : wz.cell? ⟨qb, 0, none⟩ = some (.pointer (some ⟨rb, 0, none⟩)) := hSw.q.cell 0; have q1 : wz.cell? ⟨qb, 1, none⟩ = some (.int .i64 1) := hSw.q.cell 1; have q2 : wz.cell? ⟨qb, 2, none⟩ = some (.string t) := hSw.q.cell 2; have q3 : wz.cell? ⟨qb, 3, none⟩ = some (.string k) := hSw.q.cell 3; have q4 : wz.cell? ⟨qb, 4, none⟩ = some (.string n) := hSw.q.cell 4; have m1 : wz.cell? ⟨g, 1, none⟩ = some (.string xa) := hSw.m.cell 1; go_simp; try (with_reducible rfl)
  try simp only [Act.put, List.setIfInBounds_toArray, List.set_cons_zero, List.set_cons_succ, List.getElem_toArray, List.getElem_cons_succ, List.getElem_cons_zero]
  refine take_at (some 81) (i := 18) (v := ?_) rfl rfl (by kernel_rfl) (by kernel_rfl) (by kernel_rfl) (fun _ _ _ h => h) (Or.inl ⟨by kernel_rfl, ?_⟩) hHeld ?_
  rotate_left
  · intro wz hSw; go_simp; try (with_reducible rfl)
  try simp only [Act.put, List.setIfInBounds_toArray, List.set_cons_zero, List.set_cons_succ, List.getElem_toArray, List.getElem_cons_succ, List.getElem_cons_zero]
  refine wpAnyH_ready (rs := [19]) (by kernel_rfl) (by simp) (AllReadyH.cons rfl (fun K hK => ?_) AllReadyH.nil)
  rw [if_pos (by kernel_rfl)]
  go_simp
  refine (HCK.out _ (hHeld.k)).mono ?_
  rintro e u5 ⟨rfl, hb5⟩
  try dsimp only
  refine hK.out _ _ (hHeld.on hb5) (fun hHeld => ?_)
  try simp only [Act.put, List.setIfInBounds_toArray, List.set_cons_zero, List.set_cons_succ, List.getElem_toArray, List.getElem_cons_succ, List.getElem_cons_zero]
  refine take_at (some 10) (i := 20) (v := ?_) rfl rfl (by kernel_rfl) (by kernel_rfl) (by kernel_rfl) (fun _ _ _ h => h) (Or.inl ⟨by kernel_rfl, ?_⟩) hHeld ?_
  rotate_left
  · intro wz hSw; go_simp; try (with_reducible rfl)
  try simp only [Act.put, List.setIfInBounds_toArray, List.set_cons_zero, List.set_cons_succ, List.getElem_toArray, List.getElem_cons_succ, List.getElem_cons_zero]
  refine wpAnyH_done (by kernel_rfl) ?_ _
  refine gen_qS (fun y => Rk w y qb g #[.pointer (some ⟨rb, 0, none⟩), .int .i64 1, .string t, .string k, .string n] #[.int .i64 3, .string xa, .string xb, .int .i64 xn, .int .i64 xm] #[.int .i64 0, .string ⟨#[]⟩, .string ⟨#[]⟩, .int .i64 0, .int .i64 0]) hHeld (fun a5 ha5 => ?_)
  have HA5 := Lib.hid ha5
  clear ha5 hHeld HR
  have q1 : a5.cell? ⟨qb, 1, none⟩ = some (.int .i64 1) := HA5.out.q.cell 1
  have qf := HA5.out.q.frozen 1
  go_upto_region 14 with fail
  refine gen_c (fun y => Rk w y qb g #[.pointer (some ⟨rb, 0, none⟩), .int .i64 2, .string t, .string k, .string n] #[.int .i64 3, .string xa, .string xb, .int .i64 xn, .int .i64 xm] #[.int .i64 0, .string ⟨#[]⟩, .string ⟨#[]⟩, .int .i64 0, .int .i64 0]) (by have kk := HA5.out.set (by have := HN.out; omega) 1 (.int .i64 2); simpa only [List.setIfInBounds_toArray, List.set_cons_zero, List.set_cons_succ] using kk) (fun a6 ha6 => ?_)
  have HA6 := Lib.hid ha6
  clear ha6 q1 qf
  have z0 : a6.cell? ⟨(g + 1), 0, none⟩ = some (.int .i64 0) := HA6.out.z.cell 0
  have z1 : a6.cell? ⟨(g + 1), 1, none⟩ = some (.string ⟨#[]⟩) := HA6.out.z.cell 1
  have z2 : a6.cell? ⟨(g + 1), 2, none⟩ = some (.string ⟨#[]⟩) := HA6.out.z.cell 2
  have z3 : a6.cell? ⟨(g + 1), 3, none⟩ = some (.int .i64 0) := HA6.out.z.cell 3
  have z4 : a6.cell? ⟨(g + 1), 4, none⟩ = some (.int .i64 0) := HA6.out.z.cell 4
  have f0 := HA6.out.z.frozen 0
  have f1 := HA6.out.z.frozen 1
  have f2 := HA6.out.z.frozen 2
  have f3 := HA6.out.z.frozen 3
  have f4 := HA6.out.z.frozen 4
  go_wp2
  have HU : Bk (((((a6.setCell ⟨(g + 1), 0, none⟩ (.int .i64 4)).setCell ⟨(g + 1), 1, none⟩ (.string ⟨#[]⟩)).setCell ⟨(g + 1), 2, none⟩ (.string ⟨#[]⟩)).setCell ⟨(g + 1), 3, none⟩ (.int .i64 0)).setCell ⟨(g + 1), 4, none⟩ (.int .i64 0)) (g + 1) 55 #[.int .i64 4, .string ⟨#[]⟩, .string ⟨#[]⟩, .int .i64 0, .int .i64 0] := HA6.out.z.set5 _ _ _ _ _
  have p0 := HU.cell 0; have p1 := HU.cell 1; have p2 := HU.cell 2; have p3 := HU.cell 3; have p4 := HU.cell 4
  refine bodyPost_ret (v := .tuple #[.agg #[.int .i64 4, .string ⟨#[]⟩, .string ⟨#[]⟩, .int .i64 0, .int .i64 0], .bool true]) ?_ rfl ⟨rfl, HA6.out.q.far5 (by have := HN.out; omega) _ _ _ _ _, ke_set5 HA6.out.k (by rw [HG.out]; omega) _ _ _ _ _⟩
  simp [results, Tryz.f28, go_sem, p0, p1, p2, p3, p4]

/-- Hear: what it leaves. -/
theorem rhear_ok (K : Ckf) (qb rb : Nat) (s : Sk) (st : Int) (t k n : ByteArray) (x : Mg) (now : Int) (nn : ByteArray) (w : World) (h : Bk w qb 116 #[.pointer (some ⟨rb, 0, none⟩), .int .i64 st, .string t, .string k, .string n]) (hs : RqS s st t k n)
    (hck : ∀ u, Ke [qb] w u → Calls Tryz.prog 66 #[.pointer (some ⟨rb, 0, none⟩), .string t, .string k, .string n, .string x.a, .int .i64 now] u fun e u' => e = .returned (.int .i64 (K t k n x.a now)) ∧ Below u.heap.size u u') :
    Calls Tryz.prog 28 #[.pointer (some ⟨qb, 0, none⟩), .agg x.cells, .int .i64 now, .string nn] w fun e u' => e = .returned (.tuple #[.agg (hsM K s x now nn).cells, .bool (!ovS s)]) ∧ (∃ st' t' k' n', Bk u' qb 116 #[.pointer (some ⟨rb, 0, none⟩), .int .i64 st', .string t', .string k', .string n'] ∧ RqS (hsS K s x now nn) st' t' k' n' ∧ ((t' = t ∧ k' = k ∧ n' = n) ∨ (t' = x.a ∧ k' = x.b ∧ n' = cutN nn))) ∧ Ke [qb] w u' := by
  obtain ⟨xk, xa, xb, xn, xm⟩ := x
  dsimp only at hck
  cases s with
  | new =>
    obtain rfl : st = 0 := hs
    by_cases hk : xk = 1
    · subst hk
      exact (rhear_hello qb rb t k n xn xm now xa xb nn w h).mono fun e u' hh => ⟨hh.1, ⟨_, _, _, _, hh.2.1, ⟨rfl, rfl, rfl, rfl⟩, .inr ⟨rfl, rfl, rfl⟩⟩, hh.2.2⟩
    · have e1 : hsM K .new ⟨xk, xa, xb, xn, xm⟩ now nn = ⟨5, eS, eS, 1, 0⟩ := if_neg hk
      have e2 : hsS K .new ⟨xk, xa, xb, xn, xm⟩ now nn = .no := if_neg hk
      rw [e1, e2]
      exact (rhear_no0 qb rb t k n xk xn xm now xa xb nn w hk h).mono fun e u' hh => ⟨hh.1, ⟨_, _, _, _, hh.2.1, rfl, .inl ⟨rfl, rfl, rfl⟩⟩, hh.2.2⟩
  | ask a b c =>
    obtain ⟨rfl, rfl, rfl, rfl⟩ := hs
    by_cases hk : xk = 3
    · subst hk
      by_cases h0 : K t k n xa now = 0
      · have e1 : hsM K (.ask t k n) ⟨3, xa, xb, xn, xm⟩ now nn = ⟨4, eS, eS, 0, 0⟩ := if_pos h0
        have e2 : hsS K (.ask t k n) ⟨3, xa, xb, xn, xm⟩ now nn = .known t := if_pos h0
        rw [e1, e2]
        rw [h0] at hck
        exact (rhear_yes qb rb t k n xn xm now xa xb nn w hck h).mono fun e u' hh => ⟨hh.1, ⟨_, _, _, _, hh.2.1, ⟨rfl, rfl⟩, .inl ⟨rfl, rfl, rfl⟩⟩, hh.2.2⟩
      · have e1 : hsM K (.ask t k n) ⟨3, xa, xb, xn, xm⟩ now nn = ⟨5, eS, eS, K t k n xa now, 0⟩ := if_neg h0
        have e2 : hsS K (.ask t k n) ⟨3, xa, xb, xn, xm⟩ now nn = .no := if_neg h0
        rw [e1, e2]
        exact (rhear_bad qb rb t k n xn xm now xa xb nn w _ hck h0 h).mono fun e u' hh => ⟨hh.1, ⟨_, _, _, _, hh.2.1, rfl, .inl ⟨rfl, rfl, rfl⟩⟩, hh.2.2⟩
    · have e1 : hsM K (.ask t k n) ⟨xk, xa, xb, xn, xm⟩ now nn = ⟨5, eS, eS, 1, 0⟩ := if_neg hk
      have e2 : hsS K (.ask t k n) ⟨xk, xa, xb, xn, xm⟩ now nn = .no := if_neg hk
      rw [e1, e2]
      exact (rhear_no1 qb rb t k n xk xn xm now xa xb nn w hk h).mono fun e u' hh => ⟨hh.1, ⟨_, _, _, _, hh.2.1, rfl, .inl ⟨rfl, rfl, rfl⟩⟩, hh.2.2⟩
  | known a =>
    obtain ⟨rfl, rfl⟩ := hs
    exact (rhear_over qb rb t k n xk 2 xn xm now xa xb nn w (by decide) h).mono fun e u' hh => ⟨hh.1, ⟨_, _, _, _, hh.2.1, ⟨rfl, rfl⟩, .inl ⟨rfl, rfl, rfl⟩⟩, hh.2.2⟩
  | no =>
    obtain rfl : st = 3 := hs
    exact (rhear_over qb rb t k n xk 3 xn xm now xa xb nn w (by decide) h).mono fun e u' hh => ⟨hh.1, ⟨_, _, _, _, hh.2.1, rfl, .inl ⟨rfl, rfl, rfl⟩⟩, hh.2.2⟩
end Go.Proofs.YtekobdmlgbffnaaGreatDoor
