/- config.Parse: texts that are not too long. (Written by gen_cgl5.py.) -/
import Derived.Test.YtekobdmlgbffnaaGreatDoorCgL4
import Derived.Test.YtekobdmlgbffnaaGreatDoorG4
namespace Go.Proofs.YtekobdmlgbffnaaGreatDoor
set_option linter.unusedVariables false
set_option maxRecDepth 100000
set_option linter.unusedSimpArgs false
open Go.RowKit Go.Shelf
attribute [local go_sem] Oper.semAt_some

theorem below_keepsOthers {u u' : World} (h : Below u.heap.size u u') : KeepsOthers u u' := ⟨h.size, fun i o ho _ => (h.block i (Array.getElem?_eq_some_iff.1 ho).1).trans ho⟩
theorem Wd.rest {W : World} {B b : Nat} {kw : List UInt8} {L : List (List UInt8)} (hB : B ≤ b) (h : Bk W b 9 (wcs (kw :: L))) : Wd W B b 1 (L.map bs) := by
  refine ⟨hB, ⟨_, h⟩, fun i hi => ?_⟩
  have hi' : i < L.length := by simpa using hi
  rw [h.cell, Nat.add_comm]
  simp [wcs, List.getElem?_eq_getElem hi']

theorem okC_ok {o : Option Cg} {c : Cg} (h : okC o = some c) : cfgB c = true := by
  unfold okC at h
  cases o with
  | none => cases h
  | some d =>
    simp only at h
    split at h
    · rename_i hh; injection h with h; rw [← h]; exact hh
    · cases h
theorem Ch.below {B r z : Nat} {u u' : World} (h : Ch B r u u') (hr : z ≤ r) (hB : z ≤ B) (hs : z ≤ u.heap.size) : Below z u u' :=
  ⟨h.os, h.tape, h.output, h.size, fun i hi => h.low i (by omega) (by omega) (by omega)⟩
theorem Sc.low1 {u : World} {B r E : Nat} {x : Cv} (h : Sc u B r E x) {p : Addr} (hp : p.block < B) (hr : p.block ≠ r) {t0 : TypeId} {cs0 : Array Value} (ht : Bk u p.block t0 cs0) (hn : 85 ≠ t0) (hk : 37 ≠ t0) (v : Value) : Sc (u.setCell p v) B r E x := by
  have hE := h.BE
  refine ⟨h.blk.far (p := p) (fun e => hr e.symm) v, h.row.keep fun g cs hg hb => hb.far (p := p) (fun e => by rw [e] at hg; omega) v, fun T y e => ?_, h.rB, h.BE, by rw [World.size_setCell]; exact h.ES, h.sm⟩
  obtain ⟨k1, k2⟩ := h.old T y e
  refine ⟨fun z hz => ?_, ?_⟩
  · have := k1 z hz
    exact ⟨this.n.keep (Nat.le_refl _) fun g cs _ hb => hb.far (p := p) (hb.ty ht hn) v, this.k.keep (Nat.le_refl _) fun g cs _ hb => hb.far (p := p) (hb.ty ht hk) v, this.fn, this.fk⟩
  · exact ⟨k2.n.keep fun g cs hg hb => hb.far (p := p) (fun e => by rw [e] at hg; omega) v, k2.k.keep fun g cs hg hb => hb.far (p := p) (fun e => by rw [e] at hg; omega) v⟩
/-- Stores of the results. -/
theorem put5_bk {u : World} {z g : Nat} {t : TypeId} {cs : Array Value} (h : Bk u g t cs) (hg : g ≠ z) : Bk (((((u.setCell ⟨z, 0, none⟩ (.int .i64 0)).setCell ⟨z, 1, none⟩ (.int .i64 0)).setCell ⟨z, 2, none⟩ (.int .i64 0)).setCell ⟨z, 3, none⟩ (.int .i64 0)).setCell ⟨z, 4, none⟩ (.slice none 0 0)) g t cs :=
  ((((h.far (p := ⟨z, 0, none⟩) hg _).far (p := ⟨z, 1, none⟩) hg _).far (p := ⟨z, 2, none⟩) hg _).far (p := ⟨z, 3, none⟩) hg _).far (p := ⟨z, 4, none⟩) hg _
theorem Bk.same {u : World} {g : Nat} {t : TypeId} {cs : Array Value} (h : Bk u g t cs) (i : Nat) (v : Value) (hv : cs[i]? = some v) : Bk (u.setCell ⟨g, i, none⟩ v) g t cs := by
  have := h.set i v
  have e : cs.setIfInBounds i v = cs := by
    apply Array.ext_getElem?
    intro j
    rw [Array.getElem?_setIfInBounds]
    split
    · rename_i hij
      subst hij
      have := (Array.getElem?_eq_some_iff.1 hv).1
      rw [if_pos this, hv]
    · rfl
  rwa [e] at this
theorem put5_z {u : World} {z : Nat} {t : TypeId} (h : Bk u z t cz5) : Bk (((((u.setCell ⟨z, 0, none⟩ (.int .i64 0)).setCell ⟨z, 1, none⟩ (.int .i64 0)).setCell ⟨z, 2, none⟩ (.int .i64 0)).setCell ⟨z, 3, none⟩ (.int .i64 0)).setCell ⟨z, 4, none⟩ (.slice none 0 0)) z t cz5 :=
  ((((h.same 0 (.int .i64 0) rfl).same 1 (.int .i64 0) rfl).same 2 (.int .i64 0) rfl).same 3 (.int .i64 0) rfl).same 4 (.slice none 0 0) rfl
theorem put5_below {u : World} {z : Nat} : Below z u (((((u.setCell ⟨z, 0, none⟩ (.int .i64 0)).setCell ⟨z, 1, none⟩ (.int .i64 0)).setCell ⟨z, 2, none⟩ (.int .i64 0)).setCell ⟨z, 3, none⟩ (.int .i64 0)).setCell ⟨z, 4, none⟩ (.slice none 0 0)) :=
  (((((Below.refl z u).setCell (p := ⟨z, 0, none⟩) (Nat.le_refl _) _).setCell (p := ⟨z, 1, none⟩) (Nat.le_refl _) _).setCell (p := ⟨z, 2, none⟩) (Nat.le_refl _) _).setCell (p := ⟨z, 3, none⟩) (Nat.le_refl _) _).setCell (p := ⟨z, 4, none⟩) (Nat.le_refl _) _
theorem put5_keeps {u : World} {z : Nat} : KeepsOthers u (((((u.setCell ⟨z, 0, none⟩ (.int .i64 0)).setCell ⟨z, 1, none⟩ (.int .i64 0)).setCell ⟨z, 2, none⟩ (.int .i64 0)).setCell ⟨z, 3, none⟩ (.int .i64 0)).setCell ⟨z, 4, none⟩ (.slice none 0 0)) :=
  ((((KeepsOthers.setCell u ⟨z, 0, none⟩ (.int .i64 0)).trans (KeepsOthers.setCell _ ⟨z, 1, none⟩ (.int .i64 0))).trans (KeepsOthers.setCell _ ⟨z, 2, none⟩ (.int .i64 0))).trans (KeepsOthers.setCell _ ⟨z, 3, none⟩ (.int .i64 0))).trans (KeepsOthers.setCell _ ⟨z, 4, none⟩ (.slice none 0 0))
set_option maxHeartbeats 4000000 in
theorem fin_bad {w W W9 W10 : World} {z k p : Nat} {pre : List Ln} {X : Ln} (hI : PaI w z k pre W) (hp : pre.length = p) (b0 : Bk W9 z 24 cz5) (b1 : Bk W9 (z + 1) 27 #[.int .i64 0]) (b2 : Bk W9 (z + 1 + 1) 3 #[.int .i64 0]) (hbel : Below z w W9) (hko : KeepsOthers W W9)
    (hbad : ∀ c, runQ zeroC 0 (pre.map gL) = some c → X.e = false ∨ lineC c (pre.length == 0) X.ws = none) (h10 : (((((W9.setCell ⟨z, 0, none⟩ (.int .i64 0)).setCell ⟨z, 1, none⟩ (.int .i64 0)).setCell ⟨z, 2, none⟩ (.int .i64 0)).setCell ⟨z, 3, none⟩ (.int .i64 0)).setCell ⟨z, 4, none⟩ (.slice none 0 0)) = W10) :
    KeepsOthers W ((W10.setCell ⟨z + 1, 0, none⟩ (.int .i64 91)).setCell ⟨z + 1 + 1, 0, none⟩ (.int .i64 (p : Int))) ∧ PaX w z k (pre ++ [X]) ((W10.setCell ⟨z + 1, 0, none⟩ (.int .i64 91)).setCell ⟨z + 1 + 1, 0, none⟩ (.int .i64 (p : Int))) := by
  obtain ⟨E, x, h1, h2, h3⟩ := hI.st
  have c0 : Bk W10 z 24 cz5 := h10 ▸ (put5_z (u := W9) (z := z) b0)
  have c1 : Bk W10 (z + 1) 27 #[.int .i64 0] := h10 ▸ (put5_bk (u := W9) (z := z) b1 (by omega))
  have c2 : Bk W10 (z + 1 + 1) 3 #[.int .i64 0] := h10 ▸ (put5_bk (u := W9) (z := z) b2 (by omega))
  have hk : KeepsOthers W W10 := h10 ▸ (hko.trans (put5_keeps (u := W9) (z := z)))
  have hb : Below z w W10 := h10 ▸ (hbel.trans (put5_below (u := W9) (z := z)))
  refine ⟨(hk.trans (KeepsOthers.setCell _ _ _)).trans (KeepsOthers.setCell _ _ _), ⟨⟨pre, X, x.cg, rfl, ?_, ?_, ?_, h3, hbad _ h3⟩, ?_⟩⟩
  · exact (c0.far (p := ⟨z + 1, 0, none⟩) (by show z ≠ z + 1; omega) _).far (p := ⟨z + 1 + 1, 0, none⟩) (by show z ≠ z + 1 + 1; omega) _
  · exact (c1.set 0 (.int .i64 91)).far (p := ⟨z + 1 + 1, 0, none⟩) (by show z + 1 ≠ z + 1 + 1; omega) _
  · rw [hp]
    exact (c2.far (p := ⟨z + 1, 0, none⟩) (by show z + 1 + 1 ≠ z + 1; omega) _).set 0 (.int .i64 (p : Int))
  · exact (hb.setCell (p := ⟨z + 1, 0, none⟩) (by show z ≤ z + 1; omega) _).setCell (p := ⟨z + 1 + 1, 0, none⟩) (by show z ≤ z + 1 + 1; omega) _
set_option maxHeartbeats 4000000 in
theorem fin_good {w W u : World} {z k p E' : Nat} {pre : List Ln} {X : Ln} {x' : Cv} {kw : List UInt8} {L : List (List UInt8)} (hI : PaI w z k pre W) (hp : pre.length = p) (hws : X.ws = kw :: L) (he : X.e = true) (hc : Ch (k + 3) (z + 1 + 1 + 1) W u)
    (hS : Sc u (k + 3) (z + 1 + 1 + 1) E' x') (hl : ∀ c, runQ zeroC 0 (pre.map gL) = some c → lineC c (pre.length == 0) (kw :: L) = some x'.cg) (hok : cfgB x'.cg = true) :
    KeepsOthers W (u.setCell ⟨k + 1, 0, none⟩ (.int .i64 ((p : Int) + 1))) ∧ W.heap.size ≤ (u.setCell ⟨k + 1, 0, none⟩ (.int .i64 ((p : Int) + 1))).heap.size ∧ PaI w z k (pre ++ [X]) (u.setCell ⟨k + 1, 0, none⟩ (.int .i64 ((p : Int) + 1))) := by
  obtain ⟨E, x, h1, h2, h3⟩ := hI.st
  have hzk := hI.zk
  have far : ∀ {g : Nat} {t : TypeId} {cs : Array Value}, g < k + 3 → g ≠ z + 1 + 1 + 1 → g ≠ k + 1 → Bk W g t cs → Bk (u.setCell ⟨k + 1, 0, none⟩ (.int .i64 ((p : Int) + 1))) g t cs := fun h1 h2 h3 hb => (hc.bk hb h1 h2).far (p := ⟨k + 1, 0, none⟩) h3 _
  have hsz : (u.setCell ⟨k + 1, 0, none⟩ (.int .i64 ((p : Int) + 1))).heap.size = u.heap.size := World.size_setCell _ _ _
  have hcs := hc.size
  have hSb := hS.BE
  refine ⟨hc.oth.trans (KeepsOthers.setCell _ _ _), by rw [hsz]; exact hcs, ⟨far (by omega) (by omega) (by omega) hI.r0, far (by omega) (by omega) (by omega) hI.r1, far (by omega) (by omega) (by omega) hI.r2, far (by omega) (by omega) (by omega) hI.kn, ?_, ?_, ⟨E', x', ?_, smC_of hok, ?_⟩, ?_, hzk, ?_⟩⟩
  · have hm : Mb u (z + 1 + 1 + 1 + 1) kindEs 4 := (hc.low _ (by omega) hI.mb.lt (by omega)).trans hI.mb
    exact (Below.heap_setCell _ _ _ _ (by show z + 1 + 1 + 1 + 1 ≠ k + 1; omega)).trans hm
  · have e : ((pre ++ [X]).length : Int) = (p : Int) + 1 := by rw [← hp]; simp
    rw [e]
    exact (hc.bk hI.at_ (by omega) (by omega)).set 0 (.int .i64 ((p : Int) + 1))
  · have hatu : Bk u (k + 1) 3 #[.int .i64 (pre.length : Int)] := hc.bk hI.at_ (by omega) (by omega)
    exact hS.low1 (p := ⟨k + 1, 0, none⟩) (by show k + 1 < k + 3; omega) (by show k + 1 ≠ z + 1 + 1 + 1; omega) hatu (by decide) (by decide) _
  · rw [List.map_append]
    have hg : [X].map gL = [(kw :: L, true)] := by simp [gL, hws, he]
    rw [hg]
    refine runQ_snoc _ _ _ _ _ 0 h3 ?_
    rw [Nat.zero_add, List.length_map]
    exact hl _ h3
  · rw [hsz]; exact Nat.le_trans hI.size hcs
  · refine hI.b.trans ?_
    have e1 : Below z W u := ⟨hc.os, hc.tape, hc.output, hc.size, fun i hi => ?_⟩
    · exact e1.setCell (p := ⟨k + 1, 0, none⟩) (by show z ≤ k + 1; omega) _
    · exact hc.low i (by omega) (by have := hI.size; omega) (by omega)

set_option maxRecDepth 100000 in
theorem parE_bad {s : ByteArray} {w U : World} {z D m k : Nat} {tmps : Array Value} (hz : w.heap.size = z) (hs : s.size ≤ 4096) (hpar : parseC s = .error m) (hD : k + 3 ≤ D) (hzk : z + 5 ≤ k)
    (y0 : Bk U z 24 cz5) (y1 : Bk U (z + 1) 27 #[.int .i64 91]) (y2 : Bk U (z + 1 + 1) 3 #[.int .i64 (m : Int)]) (y3 : Below z w U) (y4 : U.heap[D]? = some (.deferred (some [])))
    (t2 : tmps[2]? = some (.pointer (some ⟨z, 0, none⟩))) (t3 : tmps[3]? = some (.pointer (some ⟨z + 1, 0, none⟩))) (t4 : tmps[4]? = some (.pointer (some ⟨z + 1 + 1, 0, none⟩))) :
    bodyPostM Fence.wide 6 Tryz.prog Tryz.f7 (PaE s w) Exit.ret { tmps := tmps, defers := [{ target := .collected D, args := #[] }] } U := by
  refine ⟨by simp, .inl ⟨_, _, rfl, run_takeDeferred y4, ?_⟩⟩
  have nd : ∀ {g : Nat} {t : TypeId} {cs : Array Value}, Bk U g t cs → Bk (U.putObj D (.deferred none)) g t cs := fun hb => ((grownBy_putObj' _ D (.deferred none)).block _ hb.lt (fun e => by
    injection e with e
    subst e
    rw [show U.heap[_]? = _ from hb] at y4; cases y4)).trans hb
  have c0 := fun i => (nd y0).cell i
  have c1 := (nd y1).cell 0
  have c2 := (nd y2).cell 0
  have p5 := y3.trans (belowK_b (w := w) (n₀ := z) (by omega) _ D _ (.deferred none) (by omega) y4 rfl rfl)
  refine ⟨.tuple #[.agg cz5, .int .i64 91, .int .i64 (m : Int)], ?_, ?_⟩
  · have e0 : (U.putObj D (.deferred none)).cell? ⟨z, 0, none⟩ = some (.int .i64 0) := c0 0
    have e1 : (U.putObj D (.deferred none)).cell? ⟨z, 1, none⟩ = some (.int .i64 0) := c0 1
    have e2 : (U.putObj D (.deferred none)).cell? ⟨z, 2, none⟩ = some (.int .i64 0) := c0 2
    have e3 : (U.putObj D (.deferred none)).cell? ⟨z, 3, none⟩ = some (.int .i64 0) := c0 3
    have e4 : (U.putObj D (.deferred none)).cell? ⟨z, 4, none⟩ = some (.slice none 0 0) := c0 4
    simp [results, Tryz.f7, go_sem, t2, t3, t4, e0, e1, e2, e3, e4, c1, c2]
  · rw [PaE, hz]
    exact ⟨p5, .inr ⟨hs, .inl ⟨m, hpar, rfl⟩⟩⟩

theorem Sc.kinds {u u' : World} {B r E : Nat} {x : Cv} (h : Sc u B r E x) (hk : ∀ g t cs, (t = 85 ∨ t = 37 ∨ t = 33 ∨ t = 65) → Bk u g t cs → Bk u' g t cs) (hsz : u.heap.size ≤ u'.heap.size) : Sc u' B r E x :=
  ⟨hk _ _ _ (.inr (.inr (.inr rfl))) h.blk, h.row.keep fun g cs _ hb => hk _ _ _ (.inr (.inr (.inl rfl))) hb, fun T y e => ⟨fun z hz => ⟨((h.old T y e).1 z hz).n.keep (Nat.le_refl _) (fun g cs _ hb => hk _ _ _ (.inl rfl) hb), ((h.old T y e).1 z hz).k.keep (Nat.le_refl _) (fun g cs _ hb => hk _ _ _ (.inr (.inl rfl)) hb), ((h.old T y e).1 z hz).fn, ((h.old T y e).1 z hz).fk⟩, ⟨(h.old T y e).2.n.keep fun g cs _ hb => hk _ _ _ (.inl rfl) hb, (h.old T y e).2.k.keep fun g cs _ hb => hk _ _ _ (.inr (.inl rfl)) hb⟩⟩, h.rB, h.BE, Nat.le_trans h.ES hsz, h.sm⟩
theorem Sc.seven {W : World} {B r E z : Nat} {x : Cv} {cs0 cs1 cs2 : Array Value} (h : Sc W B r E x) (b0 : Bk W z 24 cs0) (b1 : Bk W (z + 1) 27 cs1) (b2 : Bk W (z + 1 + 1) 3 cs2) (v0 v1 v2 v3 v4 v5 v6 : Value) :
    Sc (((((((W.setCell ⟨z, 0, none⟩ v0).setCell ⟨z, 1, none⟩ v1).setCell ⟨z, 2, none⟩ v2).setCell ⟨z, 3, none⟩ v3).setCell ⟨z, 4, none⟩ v4).setCell ⟨z + 1, 0, none⟩ v5).setCell ⟨z + 1 + 1, 0, none⟩ v6) B r E x :=
  h.kinds (fun g t cs ht hb => by
    have n0 : g ≠ z := hb.ty b0 (by rcases ht with rfl | rfl | rfl | rfl <;> decide)
    have n1 : g ≠ z + 1 := hb.ty b1 (by rcases ht with rfl | rfl | rfl | rfl <;> decide)
    have n2 : g ≠ z + 1 + 1 := hb.ty b2 (by rcases ht with rfl | rfl | rfl | rfl <;> decide)
    exact ((((((hb.far (p := ⟨z, 0, none⟩) n0 _).far (p := ⟨z, 1, none⟩) n0 _).far (p := ⟨z, 2, none⟩) n0 _).far (p := ⟨z, 3, none⟩) n0 _).far (p := ⟨z, 4, none⟩) n0 _).far (p := ⟨z + 1, 0, none⟩) n1 _).far (p := ⟨z + 1 + 1, 0, none⟩) n2 _) (by simp only [World.size_setCell]; exact Nat.le_refl _)
theorem seven_at {W : World} {z n c : Nat} {a0 a1 a2 a3 : Int} {A : Option Addr} (b0 : Bk W z 24 cz5) (b1 : Bk W (z + 1) 27 #[.int .i64 0]) (b2 : Bk W (z + 1 + 1) 3 #[.int .i64 0]) :
    Bk (((((((W.setCell ⟨z, 0, none⟩ (.int .i64 a0)).setCell ⟨z, 1, none⟩ (.int .i64 a1)).setCell ⟨z, 2, none⟩ (.int .i64 a2)).setCell ⟨z, 3, none⟩ (.int .i64 a3)).setCell ⟨z, 4, none⟩ (.slice A n c)).setCell ⟨z + 1, 0, none⟩ (.int .i64 0)).setCell ⟨z + 1 + 1, 0, none⟩ (.int .i64 0)) z 24 #[.int .i64 a0, .int .i64 a1, .int .i64 a2, .int .i64 a3, .slice A n c] ∧
    Bk (((((((W.setCell ⟨z, 0, none⟩ (.int .i64 a0)).setCell ⟨z, 1, none⟩ (.int .i64 a1)).setCell ⟨z, 2, none⟩ (.int .i64 a2)).setCell ⟨z, 3, none⟩ (.int .i64 a3)).setCell ⟨z, 4, none⟩ (.slice A n c)).setCell ⟨z + 1, 0, none⟩ (.int .i64 0)).setCell ⟨z + 1 + 1, 0, none⟩ (.int .i64 0)) (z + 1) 27 #[.int .i64 0] ∧
    Bk (((((((W.setCell ⟨z, 0, none⟩ (.int .i64 a0)).setCell ⟨z, 1, none⟩ (.int .i64 a1)).setCell ⟨z, 2, none⟩ (.int .i64 a2)).setCell ⟨z, 3, none⟩ (.int .i64 a3)).setCell ⟨z, 4, none⟩ (.slice A n c)).setCell ⟨z + 1, 0, none⟩ (.int .i64 0)).setCell ⟨z + 1 + 1, 0, none⟩ (.int .i64 0)) (z + 1 + 1) 3 #[.int .i64 0] ∧
    Below z W (((((((W.setCell ⟨z, 0, none⟩ (.int .i64 a0)).setCell ⟨z, 1, none⟩ (.int .i64 a1)).setCell ⟨z, 2, none⟩ (.int .i64 a2)).setCell ⟨z, 3, none⟩ (.int .i64 a3)).setCell ⟨z, 4, none⟩ (.slice A n c)).setCell ⟨z + 1, 0, none⟩ (.int .i64 0)).setCell ⟨z + 1 + 1, 0, none⟩ (.int .i64 0)) ∧ KeepsOthers W (((((((W.setCell ⟨z, 0, none⟩ (.int .i64 a0)).setCell ⟨z, 1, none⟩ (.int .i64 a1)).setCell ⟨z, 2, none⟩ (.int .i64 a2)).setCell ⟨z, 3, none⟩ (.int .i64 a3)).setCell ⟨z, 4, none⟩ (.slice A n c)).setCell ⟨z + 1, 0, none⟩ (.int .i64 0)).setCell ⟨z + 1 + 1, 0, none⟩ (.int .i64 0)) := by
  have up : ∀ {g : Nat} {t : TypeId} {cs : Array Value}, g ≠ z → Bk W g t cs → Bk (((((W.setCell ⟨z, 0, none⟩ (.int .i64 a0)).setCell ⟨z, 1, none⟩ (.int .i64 a1)).setCell ⟨z, 2, none⟩ (.int .i64 a2)).setCell ⟨z, 3, none⟩ (.int .i64 a3)).setCell ⟨z, 4, none⟩ (.slice A n c)) g t cs := fun hg h =>
    ((((h.far (p := ⟨z, 0, none⟩) hg _).far (p := ⟨z, 1, none⟩) hg _).far (p := ⟨z, 2, none⟩) hg _).far (p := ⟨z, 3, none⟩) hg _).far (p := ⟨z, 4, none⟩) hg _
  have s0 := ((((b0.set 0 (.int .i64 a0)).set 1 (.int .i64 a1)).set 2 (.int .i64 a2)).set 3 (.int .i64 a3)).set 4 (.slice A n c)
  simp only [List.setIfInBounds_toArray, List.set_cons_zero, List.set_cons_succ] at s0
  refine ⟨(s0.far (p := ⟨z + 1, 0, none⟩) (by show z ≠ z + 1; omega) _).far (p := ⟨z + 1 + 1, 0, none⟩) (by show z ≠ z + 1 + 1; omega) _, (((up (by omega) b1).same 0 _ rfl)).far (p := ⟨z + 1 + 1, 0, none⟩) (by show z + 1 ≠ z + 1 + 1; omega) _, ((up (by omega) b2).far (p := ⟨z + 1, 0, none⟩) (by show z + 1 + 1 ≠ z + 1; omega) _).same 0 _ rfl, ?_, ?_⟩
  · exact (((((((Below.refl z W).setCell (p := ⟨z, 0, none⟩) (Nat.le_refl _) _).setCell (p := ⟨z, 1, none⟩) (Nat.le_refl _) _).setCell (p := ⟨z, 2, none⟩) (Nat.le_refl _) _).setCell (p := ⟨z, 3, none⟩) (Nat.le_refl _) _).setCell (p := ⟨z, 4, none⟩) (Nat.le_refl _) _).setCell (p := ⟨z + 1, 0, none⟩) (by show z ≤ z + 1; omega) _).setCell (p := ⟨z + 1 + 1, 0, none⟩) (by show z ≤ z + 1 + 1; omega) _
  · exact ((((((KeepsOthers.setCell W ⟨z, 0, none⟩ (.int .i64 a0)).trans (KeepsOthers.setCell _ ⟨z, 1, none⟩ (.int .i64 a1))).trans (KeepsOthers.setCell _ ⟨z, 2, none⟩ (.int .i64 a2))).trans (KeepsOthers.setCell _ ⟨z, 3, none⟩ (.int .i64 a3))).trans (KeepsOthers.setCell _ ⟨z, 4, none⟩ (.slice A n c))).trans (KeepsOthers.setCell _ ⟨z + 1, 0, none⟩ (.int .i64 0))).trans (KeepsOthers.setCell _ ⟨z + 1 + 1, 0, none⟩ (.int .i64 0))
set_option maxRecDepth 100000 in
theorem parE_ok {s : ByteArray} {w U : World} {z D B r E : Nat} {x : Cv} {tmps : Array Value} (hz : w.heap.size = z) (hs : s.size ≤ 4096) (hpar : parseC s = .ok x.cg) (hD : z + 3 ≤ D)
    (y0 : Bk U z 24 (ccs x)) (y1 : Bk U (z + 1) 27 #[.int .i64 0]) (y2 : Bk U (z + 1 + 1) 3 #[.int .i64 0]) (y3 : Below z w U) (y4 : U.heap[D]? = some (.deferred (some []))) (hS : Sc U B r E x)
    (t2 : tmps[2]? = some (.pointer (some ⟨z, 0, none⟩))) (t3 : tmps[3]? = some (.pointer (some ⟨z + 1, 0, none⟩))) (t4 : tmps[4]? = some (.pointer (some ⟨z + 1 + 1, 0, none⟩))) :
    bodyPostM Fence.wide 6 Tryz.prog Tryz.f7 (PaE s w) Exit.ret { tmps := tmps, defers := [{ target := .collected D, args := #[] }] } U := by
  refine ⟨by simp, .inl ⟨_, _, rfl, run_takeDeferred y4, ?_⟩⟩
  have nd : ∀ {g : Nat} {t : TypeId} {cs : Array Value}, Bk U g t cs → Bk (U.putObj D (.deferred none)) g t cs := fun hb => ((grownBy_putObj' _ D (.deferred none)).block _ hb.lt (fun e => by
    injection e with e
    subst e
    rw [show U.heap[_]? = _ from hb] at y4; cases y4)).trans hb
  have hrc := (hS.kinds (fun g t cs _ hb => nd hb) (by simp [World.putObj])).rc
  have c0 := fun i => (nd y0).cell i
  have c1 := (nd y1).cell 0
  have c2 := (nd y2).cell 0
  have p5 := y3.trans (belowK_b (w := w) (n₀ := z) (by omega) _ D _ (.deferred none) (by omega) y4 rfl rfl)
  refine ⟨.tuple #[.agg (ccs x), .int .i64 0, .int .i64 0], ?_, ?_⟩
  · obtain ⟨a0, a1, a2, a3, ts, A, c⟩ := x
    have e0 : (U.putObj D (.deferred none)).cell? ⟨z, 0, none⟩ = some (.int .i64 a0) := c0 0
    have e1 : (U.putObj D (.deferred none)).cell? ⟨z, 1, none⟩ = some (.int .i64 a1) := c0 1
    have e2 : (U.putObj D (.deferred none)).cell? ⟨z, 2, none⟩ = some (.int .i64 a2) := c0 2
    have e3 : (U.putObj D (.deferred none)).cell? ⟨z, 3, none⟩ = some (.int .i64 a3) := c0 3
    have e4 : (U.putObj D (.deferred none)).cell? ⟨z, 4, none⟩ = some (.slice A ts.length c) := c0 4
    simp [results, Tryz.f7, go_sem, t2, t3, t4, e0, e1, e2, e3, e4, c1, c2]
  · rw [PaE, hz]
    exact ⟨p5, .inr ⟨hs, .inr ⟨x, hpar, hrc, rfl⟩⟩⟩

set_option maxRecDepth 100000 in
set_option maxHeartbeats 8000000 in
theorem parse_small (s : ByteArray) (w : World) (hs : s.size ≤ 4096) : Calls Tryz.prog 7 #[.string s] w (PaE s w) := by
  have h1 : ¬ (s.size : Int) > 4096 := by omega
  refine (callsIn_wide (n := 6)).1 ?_
  refine callsIn_of_wp_marks Tryz.func7 rfl trivial ?_ rfl
  simp only [Tryz.ntmps7, List.size_toArray, List.length_cons, List.length_nil, Nat.reduceAdd, Nat.reduceSub, Array.replicate_succ, Array.replicate_zero, List.push_toArray, List.append_toArray, List.nil_append, List.cons_append]
  gi_wp2_with (refine ⟨trivial, ?_⟩; first | (gi_at_call 33; refine (callsIn_wide.2 (kinds_ok _)).mono ?_; rintro e u1 ⟨rfl, hm, hb⟩) | (gi_at_call 34; refine (callsIn_wide.2 (lines_ok _ _)).mono ?_; rintro e u2 ⟨rfl, rfl⟩))
  simp only [World.size_alloc] at hm hb ⊢
  obtain ⟨z, hz⟩ : ∃ z, w.heap.size = z := ⟨_, rfl⟩
  obtain ⟨k, hk⟩ : ∃ k, u1.heap.size = k := ⟨_, rfl⟩
  rw [hz] at hm hb ⊢
  have HW0 := Lib.hid (show ∀ W0, W0 = ((u1.alloc (.cells #[.map (some (z + 1 + 1 + 1 + 1))] 66)).alloc (.cells #[.int .i64 0] 3)).alloc (.cells #[.string s] 9) → W0.heap.size = k + 3 ∧ PaI w z k [] W0 ∧ Bk W0 (k + 1 + 1) 9 #[.string s] from by
    rintro W0 rfl
    have hbz := hb.size
    have hml := hm.lt
    rw [hk] at hml
    simp only [World.size_alloc] at hbz
    rw [hk, hz] at hbz
    have a3 := Bk.new (((w.alloc (.cells cz5 24)).alloc (.cells #[.int .i64 0] 27)).alloc (.cells #[.int .i64 0] 3)) 65 cz5
    have a2 := (Bk.new ((w.alloc (.cells cz5 24)).alloc (.cells #[.int .i64 0] 27)) 3 #[.int .i64 0]).alloc (.cells cz5 65)
    have a1 := ((Bk.new (w.alloc (.cells cz5 24)) 27 #[.int .i64 0]).alloc (.cells #[.int .i64 0] 3)).alloc (.cells cz5 65)
    have a0 := (((Bk.new w 24 cz5).alloc (.cells #[.int .i64 0] 27)).alloc (.cells #[.int .i64 0] 3)).alloc (.cells cz5 65)
    simp only [World.size_alloc] at a0 a1 a2 a3
    rw [hz] at a0 a1 a2 a3
    have up : ∀ {g : Nat} {t : TypeId} {cs : Array Value}, g < z + 1 + 1 + 1 + 1 → Bk ((((w.alloc (.cells cz5 24)).alloc (.cells #[.int .i64 0] 27)).alloc (.cells #[.int .i64 0] 3)).alloc (.cells cz5 65)) g t cs → Bk (((u1.alloc (.cells #[.map (some (z + 1 + 1 + 1 + 1))] 66)).alloc (.cells #[.int .i64 0] 3)).alloc (.cells #[.string s] 9)) g t cs := fun hg hbk => ((((hbk.below hb hg).alloc _).alloc _).alloc _)
    have c0 := ((Bk.new u1 66 #[.map (some (z + 1 + 1 + 1 + 1))]).alloc (.cells #[.int .i64 0] 3)).alloc (.cells #[.string s] 9)
    have c1 := (Bk.new (u1.alloc (.cells #[.map (some (z + 1 + 1 + 1 + 1))] 66)) 3 #[.int .i64 0]).alloc (.cells #[.string s] 9)
    have c2 := Bk.new ((u1.alloc (.cells #[.map (some (z + 1 + 1 + 1 + 1))] 66)).alloc (.cells #[.int .i64 0] 3)) 9 #[.string s]
    simp only [World.size_alloc] at c0 c1 c2
    rw [hk] at c0 c1 c2
    have hbel : Below z w (((u1.alloc (.cells #[.map (some (z + 1 + 1 + 1 + 1))] 66)).alloc (.cells #[.int .i64 0] 3)).alloc (.cells #[.string s] 9)) := by
      have e1 : Below w.heap.size w ((((w.alloc (.cells cz5 24)).alloc (.cells #[.int .i64 0] 27)).alloc (.cells #[.int .i64 0] 3)).alloc (.cells cz5 65)) := by go_grown
      have e2 := e1.trans (hb.mono (by rw [hz]; omega))
      have e3 : Below w.heap.size w (((u1.alloc (.cells #[.map (some (z + 1 + 1 + 1 + 1))] 66)).alloc (.cells #[.int .i64 0] 3)).alloc (.cells #[.string s] 9)) := by
        have q := e2.size
        exact ((e2.alloc q _).alloc (by rw [World.size_alloc]; omega) _).alloc (by rw [World.size_alloc, World.size_alloc]; omega) _
      rwa [hz] at e3
    have hmb : Mb (((u1.alloc (.cells #[.map (some (z + 1 + 1 + 1 + 1))] 66)).alloc (.cells #[.int .i64 0] 3)).alloc (.cells #[.string s] 9)) (z + 1 + 1 + 1 + 1) kindEs 4 := by
      have q := hm.lt
      exact hm.below (((Below.refl u1.heap.size u1).alloc (Nat.le_refl _) _).alloc (by rw [World.size_alloc]; omega) _ |>.alloc (by rw [World.size_alloc, World.size_alloc]; omega) _) q
    refine ⟨by simp only [World.size_alloc]; rw [hk], ⟨up (by omega) a0, up (by omega) a1, up (by omega) a2, c0, hmb, c1, ⟨k + 3, zeroCv, ⟨up (by omega) a3, Ow.nil _ _, (fun T y e => by cases T <;> cases e), by omega, Nat.le_refl _, by simp only [World.size_alloc]; rw [hk]; exact Nat.le_refl _, (fun y hy => by cases hy)⟩, smC_nil rfl, rfl⟩, by simp only [World.size_alloc]; rw [hk]; exact Nat.le_refl _, by omega, hbel⟩, c2⟩)
  obtain ⟨W0, hW0⟩ : ∃ W0, ((u1.alloc (.cells #[.map (some (z + 1 + 1 + 1 + 1))] 66)).alloc (.cells #[.int .i64 0] 3)).alloc (.cells #[.string s] 9) = W0 := ⟨_, rfl⟩
  obtain ⟨hsz, hI0, hbx⟩ := HW0.out W0 hW0.symm
  rw [hk, hW0]
  have HZ := Lib.hid hz
  clear HW0 hm hb hW0 hz hk
  have hzk := hI0.zk
  refine rangeFunc_reads rfl (by omega) (gf := 72) (lb := #[.pointer (some ⟨k + 1 + 1, 0, none⟩)]) rfl trivial (enters_of Tryz.func72 (by kernel_rfl) rfl)
    (lines1_reads 5 (by omega) (k + 1 + 1) (k + 3) s W0 hbx (by omega) hs) (fun h k => Nat.le_trans h k) (fun W l o o' hl ho _ _ => by simp [World.putObj]) (Below.refl _ _) (fun _ => rfl)
    (PaI w z k) (PaX w z k) (paI_own w z k _ HZ.out.symm (by omega)) (paX_own w z k _ HZ.out.symm (by omega) hzk) (tl_own _ _) hI0
    (fun x => { tmps := #[.string s, undef, .pointer (some ⟨z, 0, none⟩), .pointer (some ⟨z + 1, 0, none⟩), .pointer (some ⟨z + 1 + 1, 0, none⟩), .pointer (some ⟨z + 1 + 1 + 1, 0, none⟩), .pointer (some ⟨k, 0, none⟩), .pointer (some ⟨k + 1, 0, none⟩), .slice (some ⟨x.b, 0, none⟩) x.ws.length x.ws.length, .bool x.e, undef, undef, .string s, .int .i64 (s.size : Int), .bool false, undef, .map (some (z + 1 + 1 + 1 + 1)), .string s, .func (.func 72) #[] #[.pointer (some ⟨k + 1 + 1, 0, none⟩)], .slice (some ⟨x.b, 0, none⟩) x.ws.length x.ws.length, .bool x.e, undef, undef, undef, undef, undef, undef, undef, undef, undef, undef, undef, undef, undef, undef, undef, undef, undef, undef, undef, undef, undef, undef, undef, undef, undef, undef, undef, undef, undef, undef, undef, undef, undef, undef, undef, undef, undef, undef, undef], defers := [] }) ?assign ?body ?done ?stop
  case assign =>
    intro lp x W K hK
    gi_wp2
    exact hK
  case body =>
    rintro lp pre x W hI hRx hlen
    obtain ⟨xb, ws, e, few, small, some_⟩ := x
    cases ws with
    | nil => exact absurd rfl some_
    | cons kw L =>
      obtain ⟨many, fv, is, hKD, hlook⟩ := look_kind kw
      obtain ⟨n, hn⟩ : ∃ n, (kw :: L).length = n := ⟨_, rfl⟩
      obtain ⟨p, hp⟩ : ∃ p, pre.length = p := ⟨_, rfl⟩
      have HAT := hI.at_
      rw [hp] at HAT
      have HATh := Lib.hid HAT
      have HLK := Lib.hid hlook
      have hn1 : (0 : Int) < (n : Int) := by rw [← hn]; simp
      have hn2 : 0 < n := by rw [← hn]; simp
      have hn9 : n ≤ 4097 := by rw [← hn]; exact few
      have HI := Lib.hid hI
      have HR := Lib.hid hRx
      have HKD := Lib.hid hKD
      have HSM := Lib.hid small
      have HP9 := Lib.hid (show p < 5000 by rw [← hp]; exact hlen)
      have HMK := Lib.hid (fun b => (rfl : (⟨b, kw :: L, e, few, small, some_⟩ : Ln).ws = kw :: L))
      have HXX := Lib.hid (show gL (⟨xb, kw :: L, e, few, small, some_⟩ : Ln) = (kw :: L, e) from rfl)
      clear hKD hlook HAT
      simp only [hn]
      have HN := Lib.hid hn
      have HP := Lib.hid hp
      obtain ⟨X, hX⟩ : ∃ X, (⟨xb, kw :: L, e, few, small, some_⟩ : Ln) = X := ⟨_, rfl⟩
      have HXl := Lib.hid (show X.ws = kw :: L ∧ X.e = e by rw [← hX]; exact ⟨rfl, rfl⟩)
      simp only [hX]
      have HRx := Lib.hid (show k + 3 ≤ xb ∧ Bk W xb 9 (wcs (kw :: L)) from hRx)
      clear hI hRx hn hp HMK HXX HR hX
      gi_wp2
      cases is with
      | false =>
        obtain ⟨rfl, rfl⟩ := kd_false HKD.out
        try simp only [List.cons_append, List.nil_append]
        refine wpIn_region_held_drew (S := fun wz => Below W.heap.size W wz) (by kernel_rfl) (by kernel_rfl) (fun hl => by obtain ⟨_, _, hl⟩ := hl; rcases (show KeepsOthers W _ ∧ ((Exit.outgrown = Exit.normal ∧ _) ∨ (Exit.outgrown = Exit.ret ∧ _)) from hl).2 with ⟨h, _⟩ | ⟨h, _⟩ <;> cases h) ((Below.refl _ _).drew) (fun hHeld => ?_)
        refine tk (some 22) 0 (v := ?_) rfl rfl ?_ hHeld ?_
        rotate_left
        · intro wz hSw; have k0 : wz.cell? ⟨k, 0, none⟩ = some (.map (some (z + 1 + 1 + 1 + 1))) := (HI.out.kn.below hSw HI.out.kn.lt).cell 0; have k1 : wz.cell? ⟨xb, 0, none⟩ = some (.string (bs kw)) := (HRx.out.2.below hSw HRx.out.2.lt).cell 0; have k2 := HLK.out wz (z + 1 + 1 + 1 + 1) (HI.out.mb.below hSw HI.out.mb.lt); go_simp; try (with_reducible rfl)
        try simp only [lay]
        refine tk (some 23) 1 (v := ?_) rfl rfl ?_ hHeld ?_
        rotate_left
        · intro wz hSw; have k0 : wz.cell? ⟨k, 0, none⟩ = some (.map (some (z + 1 + 1 + 1 + 1))) := (HI.out.kn.below hSw HI.out.kn.lt).cell 0; have k1 : wz.cell? ⟨xb, 0, none⟩ = some (.string (bs kw)) := (HRx.out.2.below hSw HRx.out.2.lt).cell 0; have k2 := HLK.out wz (z + 1 + 1 + 1 + 1) (HI.out.mb.below hSw HI.out.mb.lt); go_simp; try (with_reducible rfl)
        try simp only [lay]
        refine tk (some 24) 2 (v := ?_) rfl rfl ?_ hHeld ?_
        rotate_left
        · intro wz hSw; have k0 : wz.cell? ⟨k, 0, none⟩ = some (.map (some (z + 1 + 1 + 1 + 1))) := (HI.out.kn.below hSw HI.out.kn.lt).cell 0; have k1 : wz.cell? ⟨xb, 0, none⟩ = some (.string (bs kw)) := (HRx.out.2.below hSw HRx.out.2.lt).cell 0; have k2 := HLK.out wz (z + 1 + 1 + 1 + 1) (HI.out.mb.below hSw HI.out.mb.lt); go_simp; try (with_reducible rfl)
        try simp only [lay]
        refine tk (some 25) 3 (v := ?_) rfl rfl ?_ hHeld ?_
        rotate_left
        · intro wz hSw; have k0 : wz.cell? ⟨k, 0, none⟩ = some (.map (some (z + 1 + 1 + 1 + 1))) := (HI.out.kn.below hSw HI.out.kn.lt).cell 0; have k1 : wz.cell? ⟨xb, 0, none⟩ = some (.string (bs kw)) := (HRx.out.2.below hSw HRx.out.2.lt).cell 0; have k2 := HLK.out wz (z + 1 + 1 + 1 + 1) (HI.out.mb.below hSw HI.out.mb.lt); go_simp; try (with_reducible rfl)
        try simp only [lay]
        refine tk (some 26) 4 (v := ?_) rfl rfl ?_ hHeld ?_
        rotate_left
        · intro wz hSw; have k0 : wz.cell? ⟨k, 0, none⟩ = some (.map (some (z + 1 + 1 + 1 + 1))) := (HI.out.kn.below hSw HI.out.kn.lt).cell 0; have k1 : wz.cell? ⟨xb, 0, none⟩ = some (.string (bs kw)) := (HRx.out.2.below hSw HRx.out.2.lt).cell 0; have k2 := HLK.out wz (z + 1 + 1 + 1 + 1) (HI.out.mb.below hSw HI.out.mb.lt); go_simp; try (with_reducible rfl)
        try simp only [lay]
        refine tk (some 21) 5 (v := ?_) rfl rfl ?_ hHeld ?_
        rotate_left
        · intro wz hSw; have k0 : wz.cell? ⟨k, 0, none⟩ = some (.map (some (z + 1 + 1 + 1 + 1))) := (HI.out.kn.below hSw HI.out.kn.lt).cell 0; have k1 : wz.cell? ⟨xb, 0, none⟩ = some (.string (bs kw)) := (HRx.out.2.below hSw HRx.out.2.lt).cell 0; have k2 := HLK.out wz (z + 1 + 1 + 1 + 1) (HI.out.mb.below hSw HI.out.mb.lt); go_simp; try (with_reducible rfl)
        try simp only [lay]
        refine tk (some 27) 6 (v := ?_) rfl rfl ?_ hHeld ?_
        rotate_left
        · intro wz hSw; have k0 : wz.cell? ⟨k, 0, none⟩ = some (.map (some (z + 1 + 1 + 1 + 1))) := (HI.out.kn.below hSw HI.out.kn.lt).cell 0; have k1 : wz.cell? ⟨xb, 0, none⟩ = some (.string (bs kw)) := (HRx.out.2.below hSw HRx.out.2.lt).cell 0; have k2 := HLK.out wz (z + 1 + 1 + 1 + 1) (HI.out.mb.below hSw HI.out.mb.lt); go_simp; try (with_reducible rfl)
        try simp only [lay]
        refine tk (some 28) 7 (v := ?_) rfl rfl ?_ hHeld ?_
        rotate_left
        · intro wz hSw; have k0 : wz.cell? ⟨k, 0, none⟩ = some (.map (some (z + 1 + 1 + 1 + 1))) := (HI.out.kn.below hSw HI.out.kn.lt).cell 0; have k1 : wz.cell? ⟨xb, 0, none⟩ = some (.string (bs kw)) := (HRx.out.2.below hSw HRx.out.2.lt).cell 0; have k2 := HLK.out wz (z + 1 + 1 + 1 + 1) (HI.out.mb.below hSw HI.out.mb.lt); go_simp; try (with_reducible rfl)
        try simp only [lay]
        refine wpAnyH_ready (rs := [8]) (by kernel_rfl) (by simp) (AllReadyH.cons rfl (fun K hK => ?_) AllReadyH.nil)
        rw [if_pos (by kernel_rfl)]
        go_simp
        refine hK.out _ _ ((Below.refl _ _).drew.alloc (Nat.le_refl _) _) (fun hHeld => ?_)
        try simp only [lay]
        refine wpAnyH_ready (rs := [9]) (by kernel_rfl) (by simp) (AllReadyH.cons rfl (fun K hK => ?_) AllReadyH.nil)
        rw [if_pos (by kernel_rfl)]
        go_simp
        refine hK.out _ _ (((Below.refl W.heap.size W).alloc (Nat.le_refl _) _).drew) (fun hHeld => ?_)
        try simp only [lay]
        refine wpAnyH_ready (rs := [10]) (by kernel_rfl) (by simp) (AllReadyH.cons rfl (fun K hK => ?_) AllReadyH.nil)
        rw [if_pos (by kernel_rfl)]
        go_simp
        refine hK.out _ _ (((Below.refl W.heap.size W).alloc (Nat.le_refl _) _).drew) (fun hHeld => ?_)
        try simp only [lay]
        refine wpAnyH_done (by kernel_rfl) ?_ _
        clear hHeld
        obtain ⟨W8, hW8⟩ : ∃ W8, (W.alloc (.cells #[.int .i64 0, .nilFunc] 74)).drew = W8 := ⟨_, rfl⟩
        have HB8 := Lib.hid (show Below W.heap.size W W8 by rw [← hW8]; exact ((Below.refl W.heap.size W).alloc (Nat.le_refl _) _).drew)
        
        rw [hW8]
        clear hW8
        gi_wp2
        cases e with
        | false =>
          try simp only [List.cons_append, List.nil_append]
          refine wpIn_region_held_drew (S := fun wz => Below W8.heap.size W8 wz) (by kernel_rfl) (by kernel_rfl) (fun hl => by obtain ⟨_, _, hl⟩ := hl; rcases (show KeepsOthers W _ ∧ ((Exit.outgrown = Exit.normal ∧ _) ∨ (Exit.outgrown = Exit.ret ∧ _)) from hl).2 with ⟨h, _⟩ | ⟨h, _⟩ <;> cases h) ((Below.refl _ _).drew) (fun hHeld => ?_)
          refine tk (some 29) 0 (v := ?_) rfl rfl ?_ hHeld ?_
          rotate_left
          · intro wz hSw; go_simp; try (with_reducible rfl)
          try simp only [lay]
          refine tk (some 30) 1 (v := ?_) rfl rfl ?_ hHeld ?_
          rotate_left
          · intro wz hSw; go_simp; try (with_reducible rfl)
          try simp only [lay]
          refine tk (some 31) 2 (v := ?_) rfl rfl ?_ hHeld ?_
          rotate_left
          · intro wz hSw; go_simp; try (with_reducible rfl)
          try simp only [lay]
          refine tu (some 32) 3 rfl rfl hHeld ?_
          try simp only [lay]
          refine tu (some 33) 4 rfl rfl hHeld ?_
          try simp only [lay]
          refine tk (some 34) 5 (v := ?_) rfl rfl ?_ hHeld ?_
          rotate_left
          · intro wz hSw; go_simp; try (with_reducible rfl)
          try simp only [lay]
          refine tk (some 35) 6 (v := ?_) rfl rfl ?_ hHeld ?_
          rotate_left
          · intro wz hSw; go_simp; try (with_reducible rfl)
          try simp only [lay]
          refine tu (some 36) 7 rfl rfl hHeld ?_
          try simp only [lay]
          refine tu (some 37) 8 rfl rfl hHeld ?_
          try simp only [lay]
          refine tu (some 38) 9 rfl rfl hHeld ?_
          try simp only [lay]
          refine tu (some 39) 10 rfl rfl hHeld ?_
          try simp only [lay]
          refine tu (some 40) 11 rfl rfl hHeld ?_
          try simp only [lay]
          refine tu (some 41) 12 rfl rfl hHeld ?_
          try simp only [lay]
          refine tu (some 42) 13 rfl rfl hHeld ?_
          try simp only [lay]
          refine tk (some 43) 14 (v := ?_) rfl rfl ?_ hHeld ?_
          rotate_left
          · intro wz hSw; go_simp; try (with_reducible rfl)
          try simp only [lay]
          refine tk (some 44) 15 (v := ?_) rfl rfl ?_ hHeld ?_
          rotate_left
          · intro wz hSw; go_simp; try (with_reducible rfl)
          try simp only [lay]
          refine tu (some 45) 16 rfl rfl hHeld ?_
          try simp only [lay]
          refine tu (some 46) 17 rfl rfl hHeld ?_
          try simp only [lay]
          refine tu (some 47) 18 rfl rfl hHeld ?_
          try simp only [lay]
          refine tu (some 48) 19 rfl rfl hHeld ?_
          try simp only [lay]
          refine tu (some 49) 20 rfl rfl hHeld ?_
          try simp only [lay]
          refine tk (some 50) 21 (v := ?_) rfl rfl ?_ hHeld ?_
          rotate_left
          · intro wz hSw; go_simp; try (with_reducible rfl)
          try simp only [lay]
          refine wpAnyH_done (by kernel_rfl) ?_ _
          clear hHeld
          gi_wp2
          obtain ⟨W9, hW9⟩ : ∃ X, W8.drew.drew = X := ⟨_, rfl⟩
          have HF9 := Lib.hid (show Bk W9 z 24 cz5 ∧ Bk W9 (z + 1) 27 #[.int .i64 0] ∧ Bk W9 (z + 1 + 1) 3 #[.int .i64 0] ∧ Bk W9 (k + 1) 3 #[.int .i64 (p : Int)] ∧ Below z w W9 ∧ KeepsOthers W W9 by rw [← hW9]; exact ⟨((HI.out.r0.below HB8.out HI.out.r0.lt).drew).drew, ((HI.out.r1.below HB8.out HI.out.r1.lt).drew).drew, ((HI.out.r2.below HB8.out HI.out.r2.lt).drew).drew, ((HATh.out.below HB8.out HATh.out.lt).drew).drew, ((HI.out.b.trans (HB8.out.mono (by have := HI.out.size; have := HI.out.zk; omega))).drew).drew, ((below_keepsOthers HB8.out).trans (KeepsOthers.drew _)).trans (KeepsOthers.drew _)⟩)
          try simp only [List.cons_append, List.nil_append]
          refine wpIn_region_held_drew (S := fun wz => wz.cell? ⟨k + 1, 0, none⟩ = some (.int .i64 (p : Int))) (by kernel_rfl) (by kernel_rfl) (fun hl => by obtain ⟨_, _, hl⟩ := hl; rcases (show KeepsOthers W _ ∧ ((Exit.outgrown = Exit.normal ∧ _) ∨ (Exit.outgrown = Exit.ret ∧ _)) from hl).2 with ⟨h, _⟩ | ⟨h, _⟩ <;> cases h) (((HATh.out.below HB8.out HATh.out.lt).drew).drew.cell 0) (fun hHeld => ?_)
          rw [hW9] at hHeld ⊢
          refine tk (some 51) 0 (v := ?_) rfl rfl ?_ hHeld ?_
          rotate_left
          · intro wz hSw; have k1 := hSw; go_simp; try (with_reducible rfl)
          try simp only [lay]
          refine tk (some 52) 1 (v := ?_) rfl rfl ?_ hHeld ?_
          rotate_left
          · intro wz hSw; have k1 := hSw; go_simp; try (with_reducible rfl)
          try simp only [lay]
          have hzk3 := HI.out.zk
          obtain ⟨b0, b1, b2, bat, -, -⟩ := HF9.out
          have c0 : W9.cell? ⟨z, 0, none⟩ = some (.int .i64 0) := b0.cell 0
          have f0 := b0.frozen 0
          have c1 : W9.cell? ⟨z, 1, none⟩ = some (.int .i64 0) := b0.cell 1
          have f1 := b0.frozen 1
          have c2 : W9.cell? ⟨z, 2, none⟩ = some (.int .i64 0) := b0.cell 2
          have f2 := b0.frozen 2
          have c3 : W9.cell? ⟨z, 3, none⟩ = some (.int .i64 0) := b0.cell 3
          have f3 := b0.frozen 3
          have c4 : W9.cell? ⟨z, 4, none⟩ = some (.slice none 0 0) := b0.cell 4
          have f4 := b0.frozen 4
          refine wpAnyH_ready (rs := [2]) (by kernel_rfl) (by simp) (AllReadyH.cons rfl (fun K hK => ?_) AllReadyH.nil)
          rw [if_pos (by kernel_rfl)]
          go_simp
          have HX9 := Lib.hid (put5_bk bat (show k + 1 ≠ z by omega))
          refine hK.out _ _ (HX9.out.cell 0) (fun hHeld => ?_)
          try simp only [lay]
          obtain ⟨W10, hW10⟩ : ∃ X, ((((W9.setCell ⟨z, 0, none⟩ (.int .i64 0)).setCell ⟨z, 1, none⟩ (.int .i64 0)).setCell ⟨z, 2, none⟩ (.int .i64 0)).setCell ⟨z, 3, none⟩ (.int .i64 0)).setCell ⟨z, 4, none⟩ (.slice none 0 0) = X := ⟨_, rfl⟩
          rw [hW10] at hHeld ⊢
          have d1 : Bk W10 (z + 1) 27 #[.int .i64 0] := by rw [← hW10]; exact put5_bk b1 (by omega)
          have d2 : Bk W10 (z + 1 + 1) 3 #[.int .i64 0] := by rw [← hW10]; exact put5_bk b2 (by omega)
          have dat : Bk W10 (k + 1) 3 #[.int .i64 (p : Int)] := by rw [← hW10]; exact put5_bk bat (by omega)
          have g1 : W10.cell? ⟨z + 1, 0, none⟩ = some (.int .i64 0) := d1.cell 0
          have h1' := d1.frozen 0
          refine wpAnyH_ready (rs := [3]) (by kernel_rfl) (by simp) (AllReadyH.cons rfl (fun K hK => ?_) AllReadyH.nil)
          rw [if_pos (by kernel_rfl)]
          go_simp
          refine hK.out _ _ ((dat.far (p := ⟨z + 1, 0, none⟩) (by show k + 1 ≠ z + 1; omega) _).cell 0) (fun hHeld => ?_)
          try simp only [lay]
          have e2 := d2.far (p := ⟨z + 1, 0, none⟩) (by show z + 1 + 1 ≠ z + 1; omega) (.int .i64 91)
          have g2 : (W10.setCell ⟨z + 1, 0, none⟩ (.int .i64 91)).cell? ⟨z + 1 + 1, 0, none⟩ = some (.int .i64 0) := e2.cell 0
          have h2' := e2.frozen 0
          refine wpAnyH_ready (rs := [4]) (by kernel_rfl) (by simp) (AllReadyH.cons rfl (fun K hK => ?_) AllReadyH.nil)
          rw [if_pos (by kernel_rfl)]
          go_simp
          refine hK.out _ _ (((dat.far (p := ⟨z + 1, 0, none⟩) (by show k + 1 ≠ z + 1; omega) _).far (p := ⟨z + 1 + 1, 0, none⟩) (by show k + 1 ≠ z + 1 + 1; omega) _).cell 0) (fun hHeld => ?_)
          try simp only [lay]
          refine wpAnyH_done (by kernel_rfl) ?_ _
          clear hHeld
          gi_wp2
          exact fin_bad HI.out HP.out b0 b1 b2 HF9.out.2.2.2.2.1 HF9.out.2.2.2.2.2 (fun c _ => .inl HXl.out.2) hW10
        | true =>
          try simp only [List.cons_append, List.nil_append]
          refine wpIn_region_held_drew (S := fun wz => Below W8.heap.size W8 wz) (by kernel_rfl) (by kernel_rfl) (fun hl => by obtain ⟨_, _, hl⟩ := hl; rcases (show KeepsOthers W _ ∧ ((Exit.outgrown = Exit.normal ∧ _) ∨ (Exit.outgrown = Exit.ret ∧ _)) from hl).2 with ⟨h, _⟩ | ⟨h, _⟩ <;> cases h) ((Below.refl _ _).drew) (fun hHeld => ?_)
          refine tk (some 29) 0 (v := ?_) rfl rfl ?_ hHeld ?_
          rotate_left
          · intro wz hSw; go_simp; try (with_reducible rfl)
          try simp only [lay]
          refine tk (some 30) 1 (v := ?_) rfl rfl ?_ hHeld ?_
          rotate_left
          · intro wz hSw; go_simp; try (with_reducible rfl)
          try simp only [lay]
          refine tk (some 31) 2 (v := ?_) rfl rfl ?_ hHeld ?_
          rotate_left
          · intro wz hSw; go_simp; try (with_reducible rfl)
          try simp only [lay]
          refine tk (some 32) 3 (v := ?_) rfl rfl ?_ hHeld ?_
          rotate_left
          · intro wz hSw; go_simp; try (with_reducible rfl)
          try simp only [lay]
          refine tk (some 33) 4 (v := ?_) rfl rfl ?_ hHeld ?_
          rotate_left
          · intro wz hSw; go_simp; try (with_reducible rfl)
          try simp only [lay]
          refine tk (some 34) 5 (v := ?_) rfl rfl ?_ hHeld ?_
          rotate_left
          · intro wz hSw; go_simp; try (with_reducible rfl)
          try simp only [lay]
          refine tk (some 35) 6 (v := ?_) rfl rfl ?_ hHeld ?_
          rotate_left
          · intro wz hSw; go_simp; try (with_reducible rfl)
          try simp only [lay]
          refine tu (some 36) 7 rfl rfl hHeld ?_
          try simp only [lay]
          refine tu (some 37) 8 rfl rfl hHeld ?_
          try simp only [lay]
          refine tu (some 38) 9 rfl rfl hHeld ?_
          try simp only [lay]
          refine tu (some 39) 10 rfl rfl hHeld ?_
          try simp only [lay]
          refine tu (some 40) 11 rfl rfl hHeld ?_
          try simp only [lay]
          refine tu (some 41) 12 rfl rfl hHeld ?_
          try simp only [lay]
          refine tu (some 42) 13 rfl rfl hHeld ?_
          try simp only [lay]
          refine tk (some 43) 14 (v := ?_) rfl rfl ?_ hHeld ?_
          rotate_left
          · intro wz hSw; go_simp; try (with_reducible rfl)
          try simp only [lay]
          refine tk (some 44) 15 (v := ?_) rfl rfl ?_ hHeld ?_
          rotate_left
          · intro wz hSw; go_simp; try (with_reducible rfl)
          try simp only [lay]
          refine tu (some 45) 16 rfl rfl hHeld ?_
          try simp only [lay]
          refine tu (some 46) 17 rfl rfl hHeld ?_
          try simp only [lay]
          refine tu (some 47) 18 rfl rfl hHeld ?_
          try simp only [lay]
          refine tu (some 48) 19 rfl rfl hHeld ?_
          try simp only [lay]
          refine tu (some 49) 20 rfl rfl hHeld ?_
          try simp only [lay]
          refine tk (some 50) 21 (v := ?_) rfl rfl ?_ hHeld ?_
          rotate_left
          · intro wz hSw; go_simp; try (with_reducible rfl)
          try simp only [lay]
          refine wpAnyH_done (by kernel_rfl) ?_ _
          clear hHeld
          gi_wp2
          obtain ⟨W9, hW9⟩ : ∃ X, W8.drew.drew = X := ⟨_, rfl⟩
          have HF9 := Lib.hid (show Bk W9 z 24 cz5 ∧ Bk W9 (z + 1) 27 #[.int .i64 0] ∧ Bk W9 (z + 1 + 1) 3 #[.int .i64 0] ∧ Bk W9 (k + 1) 3 #[.int .i64 (p : Int)] ∧ Below z w W9 ∧ KeepsOthers W W9 by rw [← hW9]; exact ⟨((HI.out.r0.below HB8.out HI.out.r0.lt).drew).drew, ((HI.out.r1.below HB8.out HI.out.r1.lt).drew).drew, ((HI.out.r2.below HB8.out HI.out.r2.lt).drew).drew, ((HATh.out.below HB8.out HATh.out.lt).drew).drew, ((HI.out.b.trans (HB8.out.mono (by have := HI.out.size; have := HI.out.zk; omega))).drew).drew, ((below_keepsOthers HB8.out).trans (KeepsOthers.drew _)).trans (KeepsOthers.drew _)⟩)
          try simp only [List.cons_append, List.nil_append]
          refine wpIn_region_held_drew (S := fun wz => wz.cell? ⟨k + 1, 0, none⟩ = some (.int .i64 (p : Int))) (by kernel_rfl) (by kernel_rfl) (fun hl => by obtain ⟨_, _, hl⟩ := hl; rcases (show KeepsOthers W _ ∧ ((Exit.outgrown = Exit.normal ∧ _) ∨ (Exit.outgrown = Exit.ret ∧ _)) from hl).2 with ⟨h, _⟩ | ⟨h, _⟩ <;> cases h) (((HATh.out.below HB8.out HATh.out.lt).drew).drew.cell 0) (fun hHeld => ?_)
          rw [hW9] at hHeld ⊢
          refine tk (some 51) 0 (v := ?_) rfl rfl ?_ hHeld ?_
          rotate_left
          · intro wz hSw; have k1 := hSw; go_simp; try (with_reducible rfl)
          try simp only [lay]
          refine tk (some 52) 1 (v := ?_) rfl rfl ?_ hHeld ?_
          rotate_left
          · intro wz hSw; have k1 := hSw; go_simp; try (with_reducible rfl)
          try simp only [lay]
          have hzk3 := HI.out.zk
          obtain ⟨b0, b1, b2, bat, -, -⟩ := HF9.out
          have c0 : W9.cell? ⟨z, 0, none⟩ = some (.int .i64 0) := b0.cell 0
          have f0 := b0.frozen 0
          have c1 : W9.cell? ⟨z, 1, none⟩ = some (.int .i64 0) := b0.cell 1
          have f1 := b0.frozen 1
          have c2 : W9.cell? ⟨z, 2, none⟩ = some (.int .i64 0) := b0.cell 2
          have f2 := b0.frozen 2
          have c3 : W9.cell? ⟨z, 3, none⟩ = some (.int .i64 0) := b0.cell 3
          have f3 := b0.frozen 3
          have c4 : W9.cell? ⟨z, 4, none⟩ = some (.slice none 0 0) := b0.cell 4
          have f4 := b0.frozen 4
          refine wpAnyH_ready (rs := [2]) (by kernel_rfl) (by simp) (AllReadyH.cons rfl (fun K hK => ?_) AllReadyH.nil)
          rw [if_pos (by kernel_rfl)]
          go_simp
          have HX9 := Lib.hid (put5_bk bat (show k + 1 ≠ z by omega))
          refine hK.out _ _ (HX9.out.cell 0) (fun hHeld => ?_)
          try simp only [lay]
          obtain ⟨W10, hW10⟩ : ∃ X, ((((W9.setCell ⟨z, 0, none⟩ (.int .i64 0)).setCell ⟨z, 1, none⟩ (.int .i64 0)).setCell ⟨z, 2, none⟩ (.int .i64 0)).setCell ⟨z, 3, none⟩ (.int .i64 0)).setCell ⟨z, 4, none⟩ (.slice none 0 0) = X := ⟨_, rfl⟩
          rw [hW10] at hHeld ⊢
          have d1 : Bk W10 (z + 1) 27 #[.int .i64 0] := by rw [← hW10]; exact put5_bk b1 (by omega)
          have d2 : Bk W10 (z + 1 + 1) 3 #[.int .i64 0] := by rw [← hW10]; exact put5_bk b2 (by omega)
          have dat : Bk W10 (k + 1) 3 #[.int .i64 (p : Int)] := by rw [← hW10]; exact put5_bk bat (by omega)
          have g1 : W10.cell? ⟨z + 1, 0, none⟩ = some (.int .i64 0) := d1.cell 0
          have h1' := d1.frozen 0
          refine wpAnyH_ready (rs := [3]) (by kernel_rfl) (by simp) (AllReadyH.cons rfl (fun K hK => ?_) AllReadyH.nil)
          rw [if_pos (by kernel_rfl)]
          go_simp
          refine hK.out _ _ ((dat.far (p := ⟨z + 1, 0, none⟩) (by show k + 1 ≠ z + 1; omega) _).cell 0) (fun hHeld => ?_)
          try simp only [lay]
          have e2 := d2.far (p := ⟨z + 1, 0, none⟩) (by show z + 1 + 1 ≠ z + 1; omega) (.int .i64 91)
          have g2 : (W10.setCell ⟨z + 1, 0, none⟩ (.int .i64 91)).cell? ⟨z + 1 + 1, 0, none⟩ = some (.int .i64 0) := e2.cell 0
          have h2' := e2.frozen 0
          refine wpAnyH_ready (rs := [4]) (by kernel_rfl) (by simp) (AllReadyH.cons rfl (fun K hK => ?_) AllReadyH.nil)
          rw [if_pos (by kernel_rfl)]
          go_simp
          refine hK.out _ _ (((dat.far (p := ⟨z + 1, 0, none⟩) (by show k + 1 ≠ z + 1; omega) _).far (p := ⟨z + 1 + 1, 0, none⟩) (by show k + 1 ≠ z + 1 + 1; omega) _).cell 0) (fun hHeld => ?_)
          try simp only [lay]
          refine wpAnyH_done (by kernel_rfl) ?_ _
          clear hHeld
          gi_wp2
          exact fin_bad HI.out HP.out b0 b1 b2 HF9.out.2.2.2.2.1 HF9.out.2.2.2.2.2 (fun c _ => .inr (by rw [HXl.out.1]; exact line_unknown HKD.out rfl c _ _)) hW10
      | true =>
        obtain ⟨fi, rfl⟩ := kd_true HKD.out
        try simp only [List.cons_append, List.nil_append]
        refine wpIn_region_held_drew (S := fun wz => Below W.heap.size W wz) (by kernel_rfl) (by kernel_rfl) (fun hl => by obtain ⟨_, _, hl⟩ := hl; rcases (show KeepsOthers W _ ∧ ((Exit.outgrown = Exit.normal ∧ _) ∨ (Exit.outgrown = Exit.ret ∧ _)) from hl).2 with ⟨h, _⟩ | ⟨h, _⟩ <;> cases h) ((Below.refl _ _).drew) (fun hHeld => ?_)
        refine tk (some 22) 0 (v := ?_) rfl rfl ?_ hHeld ?_
        rotate_left
        · intro wz hSw; have k0 : wz.cell? ⟨k, 0, none⟩ = some (.map (some (z + 1 + 1 + 1 + 1))) := (HI.out.kn.below hSw HI.out.kn.lt).cell 0; have k1 : wz.cell? ⟨xb, 0, none⟩ = some (.string (bs kw)) := (HRx.out.2.below hSw HRx.out.2.lt).cell 0; have k2 := HLK.out wz (z + 1 + 1 + 1 + 1) (HI.out.mb.below hSw HI.out.mb.lt); go_simp; try (with_reducible rfl)
        try simp only [lay]
        refine tk (some 23) 1 (v := ?_) rfl rfl ?_ hHeld ?_
        rotate_left
        · intro wz hSw; have k0 : wz.cell? ⟨k, 0, none⟩ = some (.map (some (z + 1 + 1 + 1 + 1))) := (HI.out.kn.below hSw HI.out.kn.lt).cell 0; have k1 : wz.cell? ⟨xb, 0, none⟩ = some (.string (bs kw)) := (HRx.out.2.below hSw HRx.out.2.lt).cell 0; have k2 := HLK.out wz (z + 1 + 1 + 1 + 1) (HI.out.mb.below hSw HI.out.mb.lt); go_simp; try (with_reducible rfl)
        try simp only [lay]
        refine tk (some 24) 2 (v := ?_) rfl rfl ?_ hHeld ?_
        rotate_left
        · intro wz hSw; have k0 : wz.cell? ⟨k, 0, none⟩ = some (.map (some (z + 1 + 1 + 1 + 1))) := (HI.out.kn.below hSw HI.out.kn.lt).cell 0; have k1 : wz.cell? ⟨xb, 0, none⟩ = some (.string (bs kw)) := (HRx.out.2.below hSw HRx.out.2.lt).cell 0; have k2 := HLK.out wz (z + 1 + 1 + 1 + 1) (HI.out.mb.below hSw HI.out.mb.lt); go_simp; try (with_reducible rfl)
        try simp only [lay]
        refine tk (some 25) 3 (v := ?_) rfl rfl ?_ hHeld ?_
        rotate_left
        · intro wz hSw; have k0 : wz.cell? ⟨k, 0, none⟩ = some (.map (some (z + 1 + 1 + 1 + 1))) := (HI.out.kn.below hSw HI.out.kn.lt).cell 0; have k1 : wz.cell? ⟨xb, 0, none⟩ = some (.string (bs kw)) := (HRx.out.2.below hSw HRx.out.2.lt).cell 0; have k2 := HLK.out wz (z + 1 + 1 + 1 + 1) (HI.out.mb.below hSw HI.out.mb.lt); go_simp; try (with_reducible rfl)
        try simp only [lay]
        refine tk (some 26) 4 (v := ?_) rfl rfl ?_ hHeld ?_
        rotate_left
        · intro wz hSw; have k0 : wz.cell? ⟨k, 0, none⟩ = some (.map (some (z + 1 + 1 + 1 + 1))) := (HI.out.kn.below hSw HI.out.kn.lt).cell 0; have k1 : wz.cell? ⟨xb, 0, none⟩ = some (.string (bs kw)) := (HRx.out.2.below hSw HRx.out.2.lt).cell 0; have k2 := HLK.out wz (z + 1 + 1 + 1 + 1) (HI.out.mb.below hSw HI.out.mb.lt); go_simp; try (with_reducible rfl)
        try simp only [lay]
        refine tk (some 21) 5 (v := ?_) rfl rfl ?_ hHeld ?_
        rotate_left
        · intro wz hSw; have k0 : wz.cell? ⟨k, 0, none⟩ = some (.map (some (z + 1 + 1 + 1 + 1))) := (HI.out.kn.below hSw HI.out.kn.lt).cell 0; have k1 : wz.cell? ⟨xb, 0, none⟩ = some (.string (bs kw)) := (HRx.out.2.below hSw HRx.out.2.lt).cell 0; have k2 := HLK.out wz (z + 1 + 1 + 1 + 1) (HI.out.mb.below hSw HI.out.mb.lt); go_simp; try (with_reducible rfl)
        try simp only [lay]
        refine tk (some 27) 6 (v := ?_) rfl rfl ?_ hHeld ?_
        rotate_left
        · intro wz hSw; have k0 : wz.cell? ⟨k, 0, none⟩ = some (.map (some (z + 1 + 1 + 1 + 1))) := (HI.out.kn.below hSw HI.out.kn.lt).cell 0; have k1 : wz.cell? ⟨xb, 0, none⟩ = some (.string (bs kw)) := (HRx.out.2.below hSw HRx.out.2.lt).cell 0; have k2 := HLK.out wz (z + 1 + 1 + 1 + 1) (HI.out.mb.below hSw HI.out.mb.lt); go_simp; try (with_reducible rfl)
        try simp only [lay]
        refine tk (some 28) 7 (v := ?_) rfl rfl ?_ hHeld ?_
        rotate_left
        · intro wz hSw; have k0 : wz.cell? ⟨k, 0, none⟩ = some (.map (some (z + 1 + 1 + 1 + 1))) := (HI.out.kn.below hSw HI.out.kn.lt).cell 0; have k1 : wz.cell? ⟨xb, 0, none⟩ = some (.string (bs kw)) := (HRx.out.2.below hSw HRx.out.2.lt).cell 0; have k2 := HLK.out wz (z + 1 + 1 + 1 + 1) (HI.out.mb.below hSw HI.out.mb.lt); go_simp; try (with_reducible rfl)
        try simp only [lay]
        refine wpAnyH_ready (rs := [8]) (by kernel_rfl) (by simp) (AllReadyH.cons rfl (fun K hK => ?_) AllReadyH.nil)
        rw [if_pos (by kernel_rfl)]
        go_simp
        refine hK.out _ _ ((Below.refl _ _).drew.alloc (Nat.le_refl _) _) (fun hHeld => ?_)
        try simp only [lay]
        refine wpAnyH_ready (rs := [9]) (by kernel_rfl) (by simp) (AllReadyH.cons rfl (fun K hK => ?_) AllReadyH.nil)
        rw [if_pos (by kernel_rfl)]
        go_simp
        refine hK.out _ _ (((Below.refl W.heap.size W).alloc (Nat.le_refl _) _).drew) (fun hHeld => ?_)
        try simp only [lay]
        refine wpAnyH_ready (rs := [10]) (by kernel_rfl) (by simp) (AllReadyH.cons rfl (fun K hK => ?_) AllReadyH.nil)
        rw [if_pos (by kernel_rfl)]
        go_simp
        refine hK.out _ _ (((Below.refl W.heap.size W).alloc (Nat.le_refl _) _).drew) (fun hHeld => ?_)
        try simp only [lay]
        refine wpAnyH_done (by kernel_rfl) ?_ _
        clear hHeld
        obtain ⟨W8, hW8⟩ : ∃ W8, (W.alloc (.cells #[.int .i64 many, .func (.func fi) #[] #[]] 74)).drew = W8 := ⟨_, rfl⟩
        have HB8 := Lib.hid (show Below W.heap.size W W8 by rw [← hW8]; exact ((Below.refl W.heap.size W).alloc (Nat.le_refl _) _).drew)
        have HK8 := Lib.hid (show Bk W8 W.heap.size 74 #[.int .i64 many, .func (.func fi) #[] #[]] by rw [← hW8]; exact (Bk.new W _ _).drew)
        rw [hW8]
        clear hW8
        gi_wp2
        cases e with
        | false =>
          try simp only [List.cons_append, List.nil_append]
          refine wpIn_region_held_drew (S := fun wz => Below W8.heap.size W8 wz) (by kernel_rfl) (by kernel_rfl) (fun hl => by obtain ⟨_, _, hl⟩ := hl; rcases (show KeepsOthers W _ ∧ ((Exit.outgrown = Exit.normal ∧ _) ∨ (Exit.outgrown = Exit.ret ∧ _)) from hl).2 with ⟨h, _⟩ | ⟨h, _⟩ <;> cases h) ((Below.refl _ _).drew) (fun hHeld => ?_)
          refine tk (some 29) 0 (v := ?_) rfl rfl ?_ hHeld ?_
          rotate_left
          · intro wz hSw; go_simp; try (with_reducible rfl)
          try simp only [lay]
          refine tk (some 30) 1 (v := ?_) rfl rfl ?_ hHeld ?_
          rotate_left
          · intro wz hSw; go_simp; try (with_reducible rfl)
          try simp only [lay]
          refine tk (some 31) 2 (v := ?_) rfl rfl ?_ hHeld ?_
          rotate_left
          · intro wz hSw; go_simp; try (with_reducible rfl)
          try simp only [lay]
          refine tu (some 32) 3 rfl rfl hHeld ?_
          try simp only [lay]
          refine tu (some 33) 4 rfl rfl hHeld ?_
          try simp only [lay]
          refine tk (some 34) 5 (v := ?_) rfl rfl ?_ hHeld ?_
          rotate_left
          · intro wz hSw; go_simp; try (with_reducible rfl)
          try simp only [lay]
          refine tk (some 35) 6 (v := ?_) rfl rfl ?_ hHeld ?_
          rotate_left
          · intro wz hSw; go_simp; try (with_reducible rfl)
          try simp only [lay]
          refine tu (some 36) 7 rfl rfl hHeld ?_
          try simp only [lay]
          refine tu (some 37) 8 rfl rfl hHeld ?_
          try simp only [lay]
          refine tu (some 38) 9 rfl rfl hHeld ?_
          try simp only [lay]
          refine tu (some 39) 10 rfl rfl hHeld ?_
          try simp only [lay]
          refine tu (some 40) 11 rfl rfl hHeld ?_
          try simp only [lay]
          refine tu (some 41) 12 rfl rfl hHeld ?_
          try simp only [lay]
          refine tu (some 42) 13 rfl rfl hHeld ?_
          try simp only [lay]
          refine tk (some 43) 14 (v := ?_) rfl rfl ?_ hHeld ?_
          rotate_left
          · intro wz hSw; go_simp; try (with_reducible rfl)
          try simp only [lay]
          refine tk (some 44) 15 (v := ?_) rfl rfl ?_ hHeld ?_
          rotate_left
          · intro wz hSw; go_simp; try (with_reducible rfl)
          try simp only [lay]
          refine tu (some 45) 16 rfl rfl hHeld ?_
          try simp only [lay]
          refine tu (some 46) 17 rfl rfl hHeld ?_
          try simp only [lay]
          refine tu (some 47) 18 rfl rfl hHeld ?_
          try simp only [lay]
          refine tu (some 48) 19 rfl rfl hHeld ?_
          try simp only [lay]
          refine tu (some 49) 20 rfl rfl hHeld ?_
          try simp only [lay]
          refine tk (some 50) 21 (v := ?_) rfl rfl ?_ hHeld ?_
          rotate_left
          · intro wz hSw; go_simp; try (with_reducible rfl)
          try simp only [lay]
          refine wpAnyH_done (by kernel_rfl) ?_ _
          clear hHeld
          gi_wp2
          obtain ⟨W9, hW9⟩ : ∃ X, W8.drew.drew = X := ⟨_, rfl⟩
          have HF9 := Lib.hid (show Bk W9 z 24 cz5 ∧ Bk W9 (z + 1) 27 #[.int .i64 0] ∧ Bk W9 (z + 1 + 1) 3 #[.int .i64 0] ∧ Bk W9 (k + 1) 3 #[.int .i64 (p : Int)] ∧ Below z w W9 ∧ KeepsOthers W W9 by rw [← hW9]; exact ⟨((HI.out.r0.below HB8.out HI.out.r0.lt).drew).drew, ((HI.out.r1.below HB8.out HI.out.r1.lt).drew).drew, ((HI.out.r2.below HB8.out HI.out.r2.lt).drew).drew, ((HATh.out.below HB8.out HATh.out.lt).drew).drew, ((HI.out.b.trans (HB8.out.mono (by have := HI.out.size; have := HI.out.zk; omega))).drew).drew, ((below_keepsOthers HB8.out).trans (KeepsOthers.drew _)).trans (KeepsOthers.drew _)⟩)
          try simp only [List.cons_append, List.nil_append]
          refine wpIn_region_held_drew (S := fun wz => wz.cell? ⟨k + 1, 0, none⟩ = some (.int .i64 (p : Int))) (by kernel_rfl) (by kernel_rfl) (fun hl => by obtain ⟨_, _, hl⟩ := hl; rcases (show KeepsOthers W _ ∧ ((Exit.outgrown = Exit.normal ∧ _) ∨ (Exit.outgrown = Exit.ret ∧ _)) from hl).2 with ⟨h, _⟩ | ⟨h, _⟩ <;> cases h) (((HATh.out.below HB8.out HATh.out.lt).drew).drew.cell 0) (fun hHeld => ?_)
          rw [hW9] at hHeld ⊢
          refine tk (some 51) 0 (v := ?_) rfl rfl ?_ hHeld ?_
          rotate_left
          · intro wz hSw; have k1 := hSw; go_simp; try (with_reducible rfl)
          try simp only [lay]
          refine tk (some 52) 1 (v := ?_) rfl rfl ?_ hHeld ?_
          rotate_left
          · intro wz hSw; have k1 := hSw; go_simp; try (with_reducible rfl)
          try simp only [lay]
          have hzk3 := HI.out.zk
          obtain ⟨b0, b1, b2, bat, -, -⟩ := HF9.out
          have c0 : W9.cell? ⟨z, 0, none⟩ = some (.int .i64 0) := b0.cell 0
          have f0 := b0.frozen 0
          have c1 : W9.cell? ⟨z, 1, none⟩ = some (.int .i64 0) := b0.cell 1
          have f1 := b0.frozen 1
          have c2 : W9.cell? ⟨z, 2, none⟩ = some (.int .i64 0) := b0.cell 2
          have f2 := b0.frozen 2
          have c3 : W9.cell? ⟨z, 3, none⟩ = some (.int .i64 0) := b0.cell 3
          have f3 := b0.frozen 3
          have c4 : W9.cell? ⟨z, 4, none⟩ = some (.slice none 0 0) := b0.cell 4
          have f4 := b0.frozen 4
          refine wpAnyH_ready (rs := [2]) (by kernel_rfl) (by simp) (AllReadyH.cons rfl (fun K hK => ?_) AllReadyH.nil)
          rw [if_pos (by kernel_rfl)]
          go_simp
          have HX9 := Lib.hid (put5_bk bat (show k + 1 ≠ z by omega))
          refine hK.out _ _ (HX9.out.cell 0) (fun hHeld => ?_)
          try simp only [lay]
          obtain ⟨W10, hW10⟩ : ∃ X, ((((W9.setCell ⟨z, 0, none⟩ (.int .i64 0)).setCell ⟨z, 1, none⟩ (.int .i64 0)).setCell ⟨z, 2, none⟩ (.int .i64 0)).setCell ⟨z, 3, none⟩ (.int .i64 0)).setCell ⟨z, 4, none⟩ (.slice none 0 0) = X := ⟨_, rfl⟩
          rw [hW10] at hHeld ⊢
          have d1 : Bk W10 (z + 1) 27 #[.int .i64 0] := by rw [← hW10]; exact put5_bk b1 (by omega)
          have d2 : Bk W10 (z + 1 + 1) 3 #[.int .i64 0] := by rw [← hW10]; exact put5_bk b2 (by omega)
          have dat : Bk W10 (k + 1) 3 #[.int .i64 (p : Int)] := by rw [← hW10]; exact put5_bk bat (by omega)
          have g1 : W10.cell? ⟨z + 1, 0, none⟩ = some (.int .i64 0) := d1.cell 0
          have h1' := d1.frozen 0
          refine wpAnyH_ready (rs := [3]) (by kernel_rfl) (by simp) (AllReadyH.cons rfl (fun K hK => ?_) AllReadyH.nil)
          rw [if_pos (by kernel_rfl)]
          go_simp
          refine hK.out _ _ ((dat.far (p := ⟨z + 1, 0, none⟩) (by show k + 1 ≠ z + 1; omega) _).cell 0) (fun hHeld => ?_)
          try simp only [lay]
          have e2 := d2.far (p := ⟨z + 1, 0, none⟩) (by show z + 1 + 1 ≠ z + 1; omega) (.int .i64 91)
          have g2 : (W10.setCell ⟨z + 1, 0, none⟩ (.int .i64 91)).cell? ⟨z + 1 + 1, 0, none⟩ = some (.int .i64 0) := e2.cell 0
          have h2' := e2.frozen 0
          refine wpAnyH_ready (rs := [4]) (by kernel_rfl) (by simp) (AllReadyH.cons rfl (fun K hK => ?_) AllReadyH.nil)
          rw [if_pos (by kernel_rfl)]
          go_simp
          refine hK.out _ _ (((dat.far (p := ⟨z + 1, 0, none⟩) (by show k + 1 ≠ z + 1; omega) _).far (p := ⟨z + 1 + 1, 0, none⟩) (by show k + 1 ≠ z + 1 + 1; omega) _).cell 0) (fun hHeld => ?_)
          try simp only [lay]
          refine wpAnyH_done (by kernel_rfl) ?_ _
          clear hHeld
          gi_wp2
          exact fin_bad HI.out HP.out b0 b1 b2 HF9.out.2.2.2.2.1 HF9.out.2.2.2.2.2 (fun c _ => .inl HXl.out.2) hW10
        | true =>
          obtain ⟨b1, hb1⟩ : ∃ b, decide (kw = wTimes) = b := ⟨_, rfl⟩
          have hs1 : ((bs kw).toList == [116, 105, 109, 101, 115]) = b1 := by rw [bs_list, ← hb1, Bool.eq_iff_iff, beq_iff_eq, decide_eq_true_iff]; rfl
          obtain ⟨b2, hb2⟩ : ∃ b, (p == 0) = b := ⟨_, rfl⟩
          have hs2 : ((p : Int) == 0) = b2 := by rw [← hb2, Bool.eq_iff_iff]; simp
          have HFF := Lib.hid (show decide (kw = wTimes) = b1 ∧ (pre.length == 0) = b2 by rw [HP.out]; exact ⟨hb1, hb2⟩)
          clear hb1 hb2
          cases b1 <;> cases b2
          rotate_left
          · try simp only [List.cons_append, List.nil_append]
            refine wpIn_region_held_drew (S := fun wz => Below W8.heap.size W8 wz) (by kernel_rfl) (by kernel_rfl) (fun hl => by obtain ⟨_, _, hl⟩ := hl; rcases (show KeepsOthers W _ ∧ ((Exit.outgrown = Exit.normal ∧ _) ∨ (Exit.outgrown = Exit.ret ∧ _)) from hl).2 with ⟨h, _⟩ | ⟨h, _⟩ <;> cases h) ((Below.refl _ _).drew) (fun hHeld => ?_)
            refine tk (some 29) 0 (v := ?_) rfl rfl ?_ hHeld ?_
            rotate_left
            · intro wz hSw; go_simp; try (with_reducible rfl)
            try simp only [lay]
            refine tk (some 30) 1 (v := ?_) rfl rfl ?_ hHeld ?_
            rotate_left
            · intro wz hSw; go_simp; try (with_reducible rfl)
            try simp only [lay]
            refine tk (some 31) 2 (v := ?_) rfl rfl ?_ hHeld ?_
            rotate_left
            · intro wz hSw; go_simp; try (with_reducible rfl)
            try simp only [lay]
            refine tk (some 32) 3 (v := ?_) rfl rfl ?_ hHeld ?_
            rotate_left
            · intro wz hSw; go_simp; try (with_reducible rfl)
            try simp only [lay]
            refine tk (some 33) 4 (v := ?_) rfl rfl ?_ hHeld ?_
            rotate_left
            · intro wz hSw; go_simp; try (with_reducible rfl)
            try simp only [lay]
            refine tk (some 34) 5 (v := ?_) rfl rfl ?_ hHeld ?_
            rotate_left
            · intro wz hSw; go_simp; try (with_reducible rfl)
            try simp only [lay]
            refine tk (some 35) 6 (v := ?_) rfl rfl ?_ hHeld ?_
            rotate_left
            · intro wz hSw; go_simp; try (with_reducible rfl)
            try simp only [lay]
            refine tk (some 36) 7 (v := ?_) rfl rfl ?_ hHeld ?_
            rotate_left
            · intro wz hSw; have k0 : wz.cell? ⟨xb, 0, none⟩ = some (.string (bs kw)) := ((HRx.out.2.below HB8.out HRx.out.2.lt).below hSw (HRx.out.2.below HB8.out HRx.out.2.lt).lt).cell 0; have k1 : wz.cell? ⟨k + 1, 0, none⟩ = some (.int .i64 (p : Int)) := ((HATh.out.below HB8.out HATh.out.lt).below hSw (HATh.out.below HB8.out HATh.out.lt).lt).cell 0; go_simp; try (with_reducible rfl)
            try simp only [lay]
            refine tk (some 37) 8 (v := ?_) rfl rfl ?_ hHeld ?_
            rotate_left
            · intro wz hSw; have k0 : wz.cell? ⟨xb, 0, none⟩ = some (.string (bs kw)) := ((HRx.out.2.below HB8.out HRx.out.2.lt).below hSw (HRx.out.2.below HB8.out HRx.out.2.lt).lt).cell 0; have k1 : wz.cell? ⟨k + 1, 0, none⟩ = some (.int .i64 (p : Int)) := ((HATh.out.below HB8.out HATh.out.lt).below hSw (HATh.out.below HB8.out HATh.out.lt).lt).cell 0; go_simp; try (with_reducible rfl)
            try simp only [lay]
            refine tk (some 38) 9 (v := ?_) rfl rfl ?_ hHeld ?_
            rotate_left
            · intro wz hSw; have k0 : wz.cell? ⟨xb, 0, none⟩ = some (.string (bs kw)) := ((HRx.out.2.below HB8.out HRx.out.2.lt).below hSw (HRx.out.2.below HB8.out HRx.out.2.lt).lt).cell 0; have k1 : wz.cell? ⟨k + 1, 0, none⟩ = some (.int .i64 (p : Int)) := ((HATh.out.below HB8.out HATh.out.lt).below hSw (HATh.out.below HB8.out HATh.out.lt).lt).cell 0; go_simp; try (with_reducible rfl)
            try simp only [lay]
            refine tk (some 39) 10 (v := ?_) rfl rfl ?_ hHeld ?_
            rotate_left
            · intro wz hSw; skip; go_simp; try (with_reducible rfl)
            try simp only [lay]
            refine tk (some 40) 11 (v := ?_) rfl rfl ?_ hHeld ?_
            rotate_left
            · intro wz hSw; have k0 : wz.cell? ⟨xb, 0, none⟩ = some (.string (bs kw)) := ((HRx.out.2.below HB8.out HRx.out.2.lt).below hSw (HRx.out.2.below HB8.out HRx.out.2.lt).lt).cell 0; have k1 : wz.cell? ⟨k + 1, 0, none⟩ = some (.int .i64 (p : Int)) := ((HATh.out.below HB8.out HATh.out.lt).below hSw (HATh.out.below HB8.out HATh.out.lt).lt).cell 0; go_simp; try (with_reducible rfl)
            try simp only [lay]
            refine tk (some 41) 12 (v := ?_) rfl rfl ?_ hHeld ?_
            rotate_left
            · intro wz hSw; have k0 : wz.cell? ⟨xb, 0, none⟩ = some (.string (bs kw)) := ((HRx.out.2.below HB8.out HRx.out.2.lt).below hSw (HRx.out.2.below HB8.out HRx.out.2.lt).lt).cell 0; have k1 : wz.cell? ⟨k + 1, 0, none⟩ = some (.int .i64 (p : Int)) := ((HATh.out.below HB8.out HATh.out.lt).below hSw (HATh.out.below HB8.out HATh.out.lt).lt).cell 0; go_simp; try (with_reducible rfl)
            try simp only [lay]
            refine tk (some 42) 13 (v := ?_) rfl rfl ?_ hHeld ?_
            rotate_left
            · intro wz hSw; have k0 : wz.cell? ⟨xb, 0, none⟩ = some (.string (bs kw)) := ((HRx.out.2.below HB8.out HRx.out.2.lt).below hSw (HRx.out.2.below HB8.out HRx.out.2.lt).lt).cell 0; have k1 : wz.cell? ⟨k + 1, 0, none⟩ = some (.int .i64 (p : Int)) := ((HATh.out.below HB8.out HATh.out.lt).below hSw (HATh.out.below HB8.out HATh.out.lt).lt).cell 0; go_simp; try (with_reducible rfl)
            try simp only [lay]
            refine tk (some 43) 14 (v := ?_) rfl rfl ?_ hHeld ?_
            rotate_left
            · intro wz hSw; go_simp; try (with_reducible rfl)
            try simp only [lay]
            refine tk (some 44) 15 (v := ?_) rfl rfl ?_ hHeld ?_
            rotate_left
            · intro wz hSw; go_simp; try (with_reducible rfl)
            try simp only [lay]
            refine tu (some 45) 16 rfl rfl hHeld ?_
            try simp only [lay]
            refine tu (some 46) 17 rfl rfl hHeld ?_
            try simp only [lay]
            refine tu (some 47) 18 rfl rfl hHeld ?_
            try simp only [lay]
            refine tu (some 48) 19 rfl rfl hHeld ?_
            try simp only [lay]
            refine tu (some 49) 20 rfl rfl hHeld ?_
            try simp only [lay]
            refine tk (some 50) 21 (v := ?_) rfl rfl ?_ hHeld ?_
            rotate_left
            · intro wz hSw; go_simp; try (with_reducible rfl)
            try simp only [lay]
            refine wpAnyH_done (by kernel_rfl) ?_ _
            clear hHeld
            gi_wp2
            obtain ⟨W9, hW9⟩ : ∃ X, W8.drew.drew = X := ⟨_, rfl⟩
            have HF9 := Lib.hid (show Bk W9 z 24 cz5 ∧ Bk W9 (z + 1) 27 #[.int .i64 0] ∧ Bk W9 (z + 1 + 1) 3 #[.int .i64 0] ∧ Bk W9 (k + 1) 3 #[.int .i64 (p : Int)] ∧ Below z w W9 ∧ KeepsOthers W W9 by rw [← hW9]; exact ⟨((HI.out.r0.below HB8.out HI.out.r0.lt).drew).drew, ((HI.out.r1.below HB8.out HI.out.r1.lt).drew).drew, ((HI.out.r2.below HB8.out HI.out.r2.lt).drew).drew, ((HATh.out.below HB8.out HATh.out.lt).drew).drew, ((HI.out.b.trans (HB8.out.mono (by have := HI.out.size; have := HI.out.zk; omega))).drew).drew, ((below_keepsOthers HB8.out).trans (KeepsOthers.drew _)).trans (KeepsOthers.drew _)⟩)
            try simp only [List.cons_append, List.nil_append]
            refine wpIn_region_held_drew (S := fun wz => wz.cell? ⟨k + 1, 0, none⟩ = some (.int .i64 (p : Int))) (by kernel_rfl) (by kernel_rfl) (fun hl => by obtain ⟨_, _, hl⟩ := hl; rcases (show KeepsOthers W _ ∧ ((Exit.outgrown = Exit.normal ∧ _) ∨ (Exit.outgrown = Exit.ret ∧ _)) from hl).2 with ⟨h, _⟩ | ⟨h, _⟩ <;> cases h) (((HATh.out.below HB8.out HATh.out.lt).drew).drew.cell 0) (fun hHeld => ?_)
            rw [hW9] at hHeld ⊢
            refine tk (some 51) 0 (v := ?_) rfl rfl ?_ hHeld ?_
            rotate_left
            · intro wz hSw; have k1 := hSw; go_simp; try (with_reducible rfl)
            try simp only [lay]
            refine tk (some 52) 1 (v := ?_) rfl rfl ?_ hHeld ?_
            rotate_left
            · intro wz hSw; have k1 := hSw; go_simp; try (with_reducible rfl)
            try simp only [lay]
            have hzk3 := HI.out.zk
            obtain ⟨b0, b1, b2, bat, -, -⟩ := HF9.out
            have c0 : W9.cell? ⟨z, 0, none⟩ = some (.int .i64 0) := b0.cell 0
            have f0 := b0.frozen 0
            have c1 : W9.cell? ⟨z, 1, none⟩ = some (.int .i64 0) := b0.cell 1
            have f1 := b0.frozen 1
            have c2 : W9.cell? ⟨z, 2, none⟩ = some (.int .i64 0) := b0.cell 2
            have f2 := b0.frozen 2
            have c3 : W9.cell? ⟨z, 3, none⟩ = some (.int .i64 0) := b0.cell 3
            have f3 := b0.frozen 3
            have c4 : W9.cell? ⟨z, 4, none⟩ = some (.slice none 0 0) := b0.cell 4
            have f4 := b0.frozen 4
            refine wpAnyH_ready (rs := [2]) (by kernel_rfl) (by simp) (AllReadyH.cons rfl (fun K hK => ?_) AllReadyH.nil)
            rw [if_pos (by kernel_rfl)]
            go_simp
            have HX9 := Lib.hid (put5_bk bat (show k + 1 ≠ z by omega))
            refine hK.out _ _ (HX9.out.cell 0) (fun hHeld => ?_)
            try simp only [lay]
            obtain ⟨W10, hW10⟩ : ∃ X, ((((W9.setCell ⟨z, 0, none⟩ (.int .i64 0)).setCell ⟨z, 1, none⟩ (.int .i64 0)).setCell ⟨z, 2, none⟩ (.int .i64 0)).setCell ⟨z, 3, none⟩ (.int .i64 0)).setCell ⟨z, 4, none⟩ (.slice none 0 0) = X := ⟨_, rfl⟩
            rw [hW10] at hHeld ⊢
            have d1 : Bk W10 (z + 1) 27 #[.int .i64 0] := by rw [← hW10]; exact put5_bk b1 (by omega)
            have d2 : Bk W10 (z + 1 + 1) 3 #[.int .i64 0] := by rw [← hW10]; exact put5_bk b2 (by omega)
            have dat : Bk W10 (k + 1) 3 #[.int .i64 (p : Int)] := by rw [← hW10]; exact put5_bk bat (by omega)
            have g1 : W10.cell? ⟨z + 1, 0, none⟩ = some (.int .i64 0) := d1.cell 0
            have h1' := d1.frozen 0
            refine wpAnyH_ready (rs := [3]) (by kernel_rfl) (by simp) (AllReadyH.cons rfl (fun K hK => ?_) AllReadyH.nil)
            rw [if_pos (by kernel_rfl)]
            go_simp
            refine hK.out _ _ ((dat.far (p := ⟨z + 1, 0, none⟩) (by show k + 1 ≠ z + 1; omega) _).cell 0) (fun hHeld => ?_)
            try simp only [lay]
            have e2 := d2.far (p := ⟨z + 1, 0, none⟩) (by show z + 1 + 1 ≠ z + 1; omega) (.int .i64 91)
            have g2 : (W10.setCell ⟨z + 1, 0, none⟩ (.int .i64 91)).cell? ⟨z + 1 + 1, 0, none⟩ = some (.int .i64 0) := e2.cell 0
            have h2' := e2.frozen 0
            refine wpAnyH_ready (rs := [4]) (by kernel_rfl) (by simp) (AllReadyH.cons rfl (fun K hK => ?_) AllReadyH.nil)
            rw [if_pos (by kernel_rfl)]
            go_simp
            refine hK.out _ _ (((dat.far (p := ⟨z + 1, 0, none⟩) (by show k + 1 ≠ z + 1; omega) _).far (p := ⟨z + 1 + 1, 0, none⟩) (by show k + 1 ≠ z + 1 + 1; omega) _).cell 0) (fun hHeld => ?_)
            try simp only [lay]
            refine wpAnyH_done (by kernel_rfl) ?_ _
            clear hHeld
            gi_wp2
            exact fin_bad HI.out HP.out b0 b1 b2 HF9.out.2.2.2.2.1 HF9.out.2.2.2.2.2 (fun c _ => .inr (by rw [HXl.out.1]; exact line_first c _ _ (by rw [HFF.out.1, HFF.out.2]; rfl))) hW10
          · try simp only [List.cons_append, List.nil_append]
            refine wpIn_region_held_drew (S := fun wz => Below W8.heap.size W8 wz) (by kernel_rfl) (by kernel_rfl) (fun hl => by obtain ⟨_, _, hl⟩ := hl; rcases (show KeepsOthers W _ ∧ ((Exit.outgrown = Exit.normal ∧ _) ∨ (Exit.outgrown = Exit.ret ∧ _)) from hl).2 with ⟨h, _⟩ | ⟨h, _⟩ <;> cases h) ((Below.refl _ _).drew) (fun hHeld => ?_)
            refine tk (some 29) 0 (v := ?_) rfl rfl ?_ hHeld ?_
            rotate_left
            · intro wz hSw; go_simp; try (with_reducible rfl)
            try simp only [lay]
            refine tk (some 30) 1 (v := ?_) rfl rfl ?_ hHeld ?_
            rotate_left
            · intro wz hSw; go_simp; try (with_reducible rfl)
            try simp only [lay]
            refine tk (some 31) 2 (v := ?_) rfl rfl ?_ hHeld ?_
            rotate_left
            · intro wz hSw; go_simp; try (with_reducible rfl)
            try simp only [lay]
            refine tk (some 32) 3 (v := ?_) rfl rfl ?_ hHeld ?_
            rotate_left
            · intro wz hSw; go_simp; try (with_reducible rfl)
            try simp only [lay]
            refine tk (some 33) 4 (v := ?_) rfl rfl ?_ hHeld ?_
            rotate_left
            · intro wz hSw; go_simp; try (with_reducible rfl)
            try simp only [lay]
            refine tk (some 34) 5 (v := ?_) rfl rfl ?_ hHeld ?_
            rotate_left
            · intro wz hSw; go_simp; try (with_reducible rfl)
            try simp only [lay]
            refine tk (some 35) 6 (v := ?_) rfl rfl ?_ hHeld ?_
            rotate_left
            · intro wz hSw; go_simp; try (with_reducible rfl)
            try simp only [lay]
            refine tk (some 36) 7 (v := ?_) rfl rfl ?_ hHeld ?_
            rotate_left
            · intro wz hSw; have k0 : wz.cell? ⟨xb, 0, none⟩ = some (.string (bs kw)) := ((HRx.out.2.below HB8.out HRx.out.2.lt).below hSw (HRx.out.2.below HB8.out HRx.out.2.lt).lt).cell 0; have k1 : wz.cell? ⟨k + 1, 0, none⟩ = some (.int .i64 (p : Int)) := ((HATh.out.below HB8.out HATh.out.lt).below hSw (HATh.out.below HB8.out HATh.out.lt).lt).cell 0; go_simp; try (with_reducible rfl)
            try simp only [lay]
            refine tk (some 37) 8 (v := ?_) rfl rfl ?_ hHeld ?_
            rotate_left
            · intro wz hSw; have k0 : wz.cell? ⟨xb, 0, none⟩ = some (.string (bs kw)) := ((HRx.out.2.below HB8.out HRx.out.2.lt).below hSw (HRx.out.2.below HB8.out HRx.out.2.lt).lt).cell 0; have k1 : wz.cell? ⟨k + 1, 0, none⟩ = some (.int .i64 (p : Int)) := ((HATh.out.below HB8.out HATh.out.lt).below hSw (HATh.out.below HB8.out HATh.out.lt).lt).cell 0; go_simp; try (with_reducible rfl)
            try simp only [lay]
            refine tk (some 38) 9 (v := ?_) rfl rfl ?_ hHeld ?_
            rotate_left
            · intro wz hSw; have k0 : wz.cell? ⟨xb, 0, none⟩ = some (.string (bs kw)) := ((HRx.out.2.below HB8.out HRx.out.2.lt).below hSw (HRx.out.2.below HB8.out HRx.out.2.lt).lt).cell 0; have k1 : wz.cell? ⟨k + 1, 0, none⟩ = some (.int .i64 (p : Int)) := ((HATh.out.below HB8.out HATh.out.lt).below hSw (HATh.out.below HB8.out HATh.out.lt).lt).cell 0; go_simp; try (with_reducible rfl)
            try simp only [lay]
            refine tk (some 39) 10 (v := ?_) rfl rfl ?_ hHeld ?_
            rotate_left
            · intro wz hSw; skip; go_simp; try (with_reducible rfl)
            try simp only [lay]
            refine tk (some 40) 11 (v := ?_) rfl rfl ?_ hHeld ?_
            rotate_left
            · intro wz hSw; have k0 : wz.cell? ⟨xb, 0, none⟩ = some (.string (bs kw)) := ((HRx.out.2.below HB8.out HRx.out.2.lt).below hSw (HRx.out.2.below HB8.out HRx.out.2.lt).lt).cell 0; have k1 : wz.cell? ⟨k + 1, 0, none⟩ = some (.int .i64 (p : Int)) := ((HATh.out.below HB8.out HATh.out.lt).below hSw (HATh.out.below HB8.out HATh.out.lt).lt).cell 0; go_simp; try (with_reducible rfl)
            try simp only [lay]
            refine tk (some 41) 12 (v := ?_) rfl rfl ?_ hHeld ?_
            rotate_left
            · intro wz hSw; have k0 : wz.cell? ⟨xb, 0, none⟩ = some (.string (bs kw)) := ((HRx.out.2.below HB8.out HRx.out.2.lt).below hSw (HRx.out.2.below HB8.out HRx.out.2.lt).lt).cell 0; have k1 : wz.cell? ⟨k + 1, 0, none⟩ = some (.int .i64 (p : Int)) := ((HATh.out.below HB8.out HATh.out.lt).below hSw (HATh.out.below HB8.out HATh.out.lt).lt).cell 0; go_simp; try (with_reducible rfl)
            try simp only [lay]
            refine tk (some 42) 13 (v := ?_) rfl rfl ?_ hHeld ?_
            rotate_left
            · intro wz hSw; have k0 : wz.cell? ⟨xb, 0, none⟩ = some (.string (bs kw)) := ((HRx.out.2.below HB8.out HRx.out.2.lt).below hSw (HRx.out.2.below HB8.out HRx.out.2.lt).lt).cell 0; have k1 : wz.cell? ⟨k + 1, 0, none⟩ = some (.int .i64 (p : Int)) := ((HATh.out.below HB8.out HATh.out.lt).below hSw (HATh.out.below HB8.out HATh.out.lt).lt).cell 0; go_simp; try (with_reducible rfl)
            try simp only [lay]
            refine tk (some 43) 14 (v := ?_) rfl rfl ?_ hHeld ?_
            rotate_left
            · intro wz hSw; go_simp; try (with_reducible rfl)
            try simp only [lay]
            refine tk (some 44) 15 (v := ?_) rfl rfl ?_ hHeld ?_
            rotate_left
            · intro wz hSw; go_simp; try (with_reducible rfl)
            try simp only [lay]
            refine tu (some 45) 16 rfl rfl hHeld ?_
            try simp only [lay]
            refine tu (some 46) 17 rfl rfl hHeld ?_
            try simp only [lay]
            refine tu (some 47) 18 rfl rfl hHeld ?_
            try simp only [lay]
            refine tu (some 48) 19 rfl rfl hHeld ?_
            try simp only [lay]
            refine tu (some 49) 20 rfl rfl hHeld ?_
            try simp only [lay]
            refine tk (some 50) 21 (v := ?_) rfl rfl ?_ hHeld ?_
            rotate_left
            · intro wz hSw; go_simp; try (with_reducible rfl)
            try simp only [lay]
            refine wpAnyH_done (by kernel_rfl) ?_ _
            clear hHeld
            gi_wp2
            obtain ⟨W9, hW9⟩ : ∃ X, W8.drew.drew = X := ⟨_, rfl⟩
            have HF9 := Lib.hid (show Bk W9 z 24 cz5 ∧ Bk W9 (z + 1) 27 #[.int .i64 0] ∧ Bk W9 (z + 1 + 1) 3 #[.int .i64 0] ∧ Bk W9 (k + 1) 3 #[.int .i64 (p : Int)] ∧ Below z w W9 ∧ KeepsOthers W W9 by rw [← hW9]; exact ⟨((HI.out.r0.below HB8.out HI.out.r0.lt).drew).drew, ((HI.out.r1.below HB8.out HI.out.r1.lt).drew).drew, ((HI.out.r2.below HB8.out HI.out.r2.lt).drew).drew, ((HATh.out.below HB8.out HATh.out.lt).drew).drew, ((HI.out.b.trans (HB8.out.mono (by have := HI.out.size; have := HI.out.zk; omega))).drew).drew, ((below_keepsOthers HB8.out).trans (KeepsOthers.drew _)).trans (KeepsOthers.drew _)⟩)
            try simp only [List.cons_append, List.nil_append]
            refine wpIn_region_held_drew (S := fun wz => wz.cell? ⟨k + 1, 0, none⟩ = some (.int .i64 (p : Int))) (by kernel_rfl) (by kernel_rfl) (fun hl => by obtain ⟨_, _, hl⟩ := hl; rcases (show KeepsOthers W _ ∧ ((Exit.outgrown = Exit.normal ∧ _) ∨ (Exit.outgrown = Exit.ret ∧ _)) from hl).2 with ⟨h, _⟩ | ⟨h, _⟩ <;> cases h) (((HATh.out.below HB8.out HATh.out.lt).drew).drew.cell 0) (fun hHeld => ?_)
            rw [hW9] at hHeld ⊢
            refine tk (some 51) 0 (v := ?_) rfl rfl ?_ hHeld ?_
            rotate_left
            · intro wz hSw; have k1 := hSw; go_simp; try (with_reducible rfl)
            try simp only [lay]
            refine tk (some 52) 1 (v := ?_) rfl rfl ?_ hHeld ?_
            rotate_left
            · intro wz hSw; have k1 := hSw; go_simp; try (with_reducible rfl)
            try simp only [lay]
            have hzk3 := HI.out.zk
            obtain ⟨b0, b1, b2, bat, -, -⟩ := HF9.out
            have c0 : W9.cell? ⟨z, 0, none⟩ = some (.int .i64 0) := b0.cell 0
            have f0 := b0.frozen 0
            have c1 : W9.cell? ⟨z, 1, none⟩ = some (.int .i64 0) := b0.cell 1
            have f1 := b0.frozen 1
            have c2 : W9.cell? ⟨z, 2, none⟩ = some (.int .i64 0) := b0.cell 2
            have f2 := b0.frozen 2
            have c3 : W9.cell? ⟨z, 3, none⟩ = some (.int .i64 0) := b0.cell 3
            have f3 := b0.frozen 3
            have c4 : W9.cell? ⟨z, 4, none⟩ = some (.slice none 0 0) := b0.cell 4
            have f4 := b0.frozen 4
            refine wpAnyH_ready (rs := [2]) (by kernel_rfl) (by simp) (AllReadyH.cons rfl (fun K hK => ?_) AllReadyH.nil)
            rw [if_pos (by kernel_rfl)]
            go_simp
            have HX9 := Lib.hid (put5_bk bat (show k + 1 ≠ z by omega))
            refine hK.out _ _ (HX9.out.cell 0) (fun hHeld => ?_)
            try simp only [lay]
            obtain ⟨W10, hW10⟩ : ∃ X, ((((W9.setCell ⟨z, 0, none⟩ (.int .i64 0)).setCell ⟨z, 1, none⟩ (.int .i64 0)).setCell ⟨z, 2, none⟩ (.int .i64 0)).setCell ⟨z, 3, none⟩ (.int .i64 0)).setCell ⟨z, 4, none⟩ (.slice none 0 0) = X := ⟨_, rfl⟩
            rw [hW10] at hHeld ⊢
            have d1 : Bk W10 (z + 1) 27 #[.int .i64 0] := by rw [← hW10]; exact put5_bk b1 (by omega)
            have d2 : Bk W10 (z + 1 + 1) 3 #[.int .i64 0] := by rw [← hW10]; exact put5_bk b2 (by omega)
            have dat : Bk W10 (k + 1) 3 #[.int .i64 (p : Int)] := by rw [← hW10]; exact put5_bk bat (by omega)
            have g1 : W10.cell? ⟨z + 1, 0, none⟩ = some (.int .i64 0) := d1.cell 0
            have h1' := d1.frozen 0
            refine wpAnyH_ready (rs := [3]) (by kernel_rfl) (by simp) (AllReadyH.cons rfl (fun K hK => ?_) AllReadyH.nil)
            rw [if_pos (by kernel_rfl)]
            go_simp
            refine hK.out _ _ ((dat.far (p := ⟨z + 1, 0, none⟩) (by show k + 1 ≠ z + 1; omega) _).cell 0) (fun hHeld => ?_)
            try simp only [lay]
            have e2 := d2.far (p := ⟨z + 1, 0, none⟩) (by show z + 1 + 1 ≠ z + 1; omega) (.int .i64 91)
            have g2 : (W10.setCell ⟨z + 1, 0, none⟩ (.int .i64 91)).cell? ⟨z + 1 + 1, 0, none⟩ = some (.int .i64 0) := e2.cell 0
            have h2' := e2.frozen 0
            refine wpAnyH_ready (rs := [4]) (by kernel_rfl) (by simp) (AllReadyH.cons rfl (fun K hK => ?_) AllReadyH.nil)
            rw [if_pos (by kernel_rfl)]
            go_simp
            refine hK.out _ _ (((dat.far (p := ⟨z + 1, 0, none⟩) (by show k + 1 ≠ z + 1; omega) _).far (p := ⟨z + 1 + 1, 0, none⟩) (by show k + 1 ≠ z + 1 + 1; omega) _).cell 0) (fun hHeld => ?_)
            try simp only [lay]
            refine wpAnyH_done (by kernel_rfl) ?_ _
            clear hHeld
            gi_wp2
            exact fin_bad HI.out HP.out b0 b1 b2 HF9.out.2.2.2.2.1 HF9.out.2.2.2.2.2 (fun c _ => .inr (by rw [HXl.out.1]; exact line_first c _ _ (by rw [HFF.out.1, HFF.out.2]; rfl))) hW10
          · obtain ⟨E, x, hSx, hSm, hrun⟩ := HI.out.st
            have HRUN := Lib.hid hrun
            obtain ⟨m, hm⟩ : ∃ m, n - 1 = m := ⟨_, rfl⟩
            have hn1' : (1 : Int) ≤ (n : Int) := by omega
            have hLm : L.length = m := by rw [← hm, ← HN.out]; simp
            obtain ⟨oo, hoo, hwd⟩ : ∃ oo, (if n = 1 then (some ⟨xb, 0, none⟩ : Option Addr) else some ⟨xb, 1, none⟩) = some ⟨xb, oo, none⟩ ∧ Wd W8.drew (k + 3) xb oo (L.map bs) := by
              have hb8 := (HRx.out.2.below HB8.out HRx.out.2.lt).drew
              by_cases h : n = 1
              · refine ⟨0, by rw [if_pos h], HRx.out.1, ⟨_, hb8⟩, fun i hi => ?_⟩
                rw [List.length_map] at hi; omega
              · exact ⟨1, by rw [if_neg h], Wd.rest HRx.out.1 hb8⟩
            have HTK := Lib.hid (take_any HKD.out rfl W8.drew (k + 3) (z + 1 + 1 + 1) E x xb oo m m L (hSx.on (HB8.out.drew)) hSm hwd hLm (fun l hl => HSM.out l (List.mem_cons_of_mem _ hl)) (by omega))
            clear hSx hSm hrun hwd hLm
            have k0 : W8.drew.cell? ⟨xb, 0, none⟩ = some (.string (bs kw)) := ((HRx.out.2.below HB8.out HRx.out.2.lt).drew).cell 0
            have k1 : W8.drew.cell? ⟨k + 1, 0, none⟩ = some (.int .i64 (p : Int)) := ((HATh.out.below HB8.out HATh.out.lt).drew).cell 0
            have q0 : W8.drew.cell? ⟨W.heap.size, 0, none⟩ = some (.int .i64 many) := (HK8.out.drew).cell 0
            have q1 : W8.drew.cell? ⟨W.heap.size, 1, none⟩ = some (.func (.func fi) #[] #[]) := (HK8.out.drew).cell 1
            try simp only [List.cons_append, List.nil_append]
            refine wpIn_region_held_drew (S := fun _ => True) (by kernel_rfl) (by kernel_rfl) (fun hl => by obtain ⟨_, _, hl⟩ := hl; rcases (show KeepsOthers W _ ∧ ((Exit.outgrown = Exit.normal ∧ _) ∨ (Exit.outgrown = Exit.ret ∧ _)) from hl).2 with ⟨h, _⟩ | ⟨h, _⟩ <;> cases h) (trivial) (fun hHeld => ?_)
            refine tk (some 29) 0 (v := ?_) rfl rfl ?_ hHeld ?_
            rotate_left
            · intro wz hSw; go_simp; try (with_reducible rfl)
            try simp only [lay]
            refine tk (some 30) 1 (v := ?_) rfl rfl ?_ hHeld ?_
            rotate_left
            · intro wz hSw; go_simp; try (with_reducible rfl)
            try simp only [lay]
            refine tk (some 31) 2 (v := ?_) rfl rfl ?_ hHeld ?_
            rotate_left
            · intro wz hSw; go_simp; try (with_reducible rfl)
            try simp only [lay]
            refine tk (some 32) 3 (v := ?_) rfl rfl ?_ hHeld ?_
            rotate_left
            · intro wz hSw; go_simp; try (with_reducible rfl)
            try simp only [lay]
            refine tk (some 33) 4 (v := ?_) rfl rfl ?_ hHeld ?_
            rotate_left
            · intro wz hSw; go_simp; try (with_reducible rfl)
            try simp only [lay]
            refine tk (some 34) 5 (v := ?_) rfl rfl ?_ hHeld ?_
            rotate_left
            · intro wz hSw; go_simp; try (with_reducible rfl)
            try simp only [lay]
            refine tk (some 35) 6 (v := ?_) rfl rfl ?_ hHeld ?_
            rotate_left
            · intro wz hSw; go_simp; try (with_reducible rfl)
            try simp only [lay]
            refine tk (some 36) 7 (v := ?_) rfl rfl ?_ hHeld ?_
            rotate_left
            · intro wz hSw; go_simp; try (with_reducible rfl)
            try simp only [lay]
            refine tk (some 37) 8 (v := ?_) rfl rfl ?_ hHeld ?_
            rotate_left
            · intro wz hSw; go_simp; try (with_reducible rfl)
            try simp only [lay]
            refine wpAnyH_ready (rs := [9, 11]) (by kernel_rfl) (by simp) (AllReadyH.cons rfl (fun K hK => ?_) (AllReadyH.cons rfl (fun K hK => ?_) AllReadyH.nil))
            · rw [if_pos (by kernel_rfl)]
              go_simp
              refine hK.out _ _ trivial (fun hHeld => ?_)
              try simp only [lay]
              refine tk (some 39) 10 (v := ?_) rfl rfl ?_ hHeld ?_
              rotate_left
              · intro wz hSw; go_simp; try (with_reducible rfl)
              try simp only [lay]
              refine wpAnyH_ready (rs := [11]) (by kernel_rfl) (by simp) (AllReadyH.cons rfl (fun K hK => ?_) AllReadyH.nil)
              rw [if_pos (by kernel_rfl)]
              go_simp
              refine hK.out _ _ trivial (fun hHeld => ?_)
              try simp only [lay]
              refine tk (some 41) 12 (v := ?_) rfl rfl ?_ hHeld ?_
              rotate_left
              · intro wz hSw; go_simp; try (with_reducible rfl)
              try simp only [lay]
              refine tk (some 42) 13 (v := ?_) rfl rfl ?_ hHeld ?_
              rotate_left
              · intro wz hSw; go_simp; try (with_reducible rfl)
              try simp only [lay]
              refine tk (some 43) 14 (v := ?_) rfl rfl ?_ hHeld ?_
              rotate_left
              · intro wz hSw; go_simp; try (with_reducible rfl)
              try simp only [lay]
              refine tk (some 44) 15 (v := ?_) rfl rfl ?_ hHeld ?_
              rotate_left
              · intro wz hSw; go_simp; try (with_reducible rfl)
              try simp only [lay]
              refine tk (some 46) 17 (v := ?_) rfl rfl ?_ hHeld ?_
              rotate_left
              · intro wz hSw; go_simp; try (with_reducible rfl)
              try simp only [lay]
              refine tk (some 47) 18 (v := ?_) rfl rfl ?_ hHeld ?_
              rotate_left
              · intro wz hSw; go_simp; try (with_reducible rfl)
              try simp only [lay]
              refine wpAnyH_ready (rs := [16]) (by kernel_rfl) (by simp) (AllReadyH.cons rfl (fun K hK => ?_) AllReadyH.nil)
              rw [if_pos (by kernel_rfl)]
              go_simp
              refine hK.out _ _ trivial (fun hHeld => ?_)
              try simp only [lay]
              refine wpAnyH_ready (rs := [19]) (by kernel_rfl) (by simp) (AllReadyH.cons rfl (fun K hK => ?_) AllReadyH.nil)
              rw [if_pos (by kernel_rfl)]
              go_simp
              refine HTK.out.mono ?_
              rintro e2 u3 ⟨⟨v, rfl, hv, hx⟩, hch⟩
              try dsimp only
              have HV := Lib.hid hv
              have HVX := Lib.hid hx
              have HC3 := Lib.hid hch
              clear hv hx hch
              refine hK.out _ _ trivial (fun hHeld => ?_)
              try simp only [lay]
              refine tk (some 49) 20 (v := ?_) rfl rfl ?_ hHeld ?_
              rotate_left
              · intro wz hSw; go_simp; try (with_reducible rfl)
              try simp only [lay]
              refine tk (some 50) 21 (v := ?_) rfl rfl ?_ hHeld ?_
              rotate_left
              · intro wz hSw; go_simp; try (with_reducible rfl)
              try simp only [lay]
              refine wpAnyH_done (by kernel_rfl) ?_ _
              clear hHeld k0 k1 q0 q1
              have hzk4 := HI.out.zk
              have at3 : Bk u3 (k + 1) 3 #[.int .i64 (p : Int)] := HC3.out.bk ((HATh.out.below HB8.out HATh.out.lt).drew) (by omega) (by omega)
              cases v with
              | false =>
                gi_wp2
                obtain ⟨W9, hW9⟩ : ∃ X, u3.drew = X := ⟨_, rfl⟩
                have HF9 := Lib.hid (show Bk W9 z 24 cz5 ∧ Bk W9 (z + 1) 27 #[.int .i64 0] ∧ Bk W9 (z + 1 + 1) 3 #[.int .i64 0] ∧ Bk W9 (k + 1) 3 #[.int .i64 (p : Int)] ∧ Below z w W9 ∧ KeepsOthers W W9 by rw [← hW9]; exact ⟨(HC3.out.bk ((HI.out.r0.below HB8.out HI.out.r0.lt).drew) (by omega) (by omega)).drew, (HC3.out.bk ((HI.out.r1.below HB8.out HI.out.r1.lt).drew) (by omega) (by omega)).drew, (HC3.out.bk ((HI.out.r2.below HB8.out HI.out.r2.lt).drew) (by omega) (by omega)).drew, (at3).drew, (((HI.out.b.trans (HB8.out.mono (by have := HI.out.size; have := HI.out.zk; omega))).drew).trans (HC3.out.below (by omega) (by omega) (by have := HI.out.size; have := HB8.out.size; show z ≤ W8.heap.size; omega))).drew, (((below_keepsOthers HB8.out).trans (KeepsOthers.drew _)).trans HC3.out.oth).trans (KeepsOthers.drew _)⟩)
                try simp only [List.cons_append, List.nil_append]
                refine wpIn_region_held_drew (S := fun wz => wz.cell? ⟨k + 1, 0, none⟩ = some (.int .i64 (p : Int))) (by kernel_rfl) (by kernel_rfl) (fun hl => by obtain ⟨_, _, hl⟩ := hl; rcases (show KeepsOthers W _ ∧ ((Exit.outgrown = Exit.normal ∧ _) ∨ (Exit.outgrown = Exit.ret ∧ _)) from hl).2 with ⟨h, _⟩ | ⟨h, _⟩ <;> cases h) ((at3).drew.cell 0) (fun hHeld => ?_)
                rw [hW9] at hHeld ⊢
                refine tk (some 51) 0 (v := ?_) rfl rfl ?_ hHeld ?_
                rotate_left
                · intro wz hSw; have k1 := hSw; go_simp; try (with_reducible rfl)
                try simp only [lay]
                refine tk (some 52) 1 (v := ?_) rfl rfl ?_ hHeld ?_
                rotate_left
                · intro wz hSw; have k1 := hSw; go_simp; try (with_reducible rfl)
                try simp only [lay]
                have hzk3 := HI.out.zk
                obtain ⟨b0, b1, b2, bat, -, -⟩ := HF9.out
                have c0 : W9.cell? ⟨z, 0, none⟩ = some (.int .i64 0) := b0.cell 0
                have f0 := b0.frozen 0
                have c1 : W9.cell? ⟨z, 1, none⟩ = some (.int .i64 0) := b0.cell 1
                have f1 := b0.frozen 1
                have c2 : W9.cell? ⟨z, 2, none⟩ = some (.int .i64 0) := b0.cell 2
                have f2 := b0.frozen 2
                have c3 : W9.cell? ⟨z, 3, none⟩ = some (.int .i64 0) := b0.cell 3
                have f3 := b0.frozen 3
                have c4 : W9.cell? ⟨z, 4, none⟩ = some (.slice none 0 0) := b0.cell 4
                have f4 := b0.frozen 4
                refine wpAnyH_ready (rs := [2]) (by kernel_rfl) (by simp) (AllReadyH.cons rfl (fun K hK => ?_) AllReadyH.nil)
                rw [if_pos (by kernel_rfl)]
                go_simp
                have HX9 := Lib.hid (put5_bk bat (show k + 1 ≠ z by omega))
                refine hK.out _ _ (HX9.out.cell 0) (fun hHeld => ?_)
                try simp only [lay]
                obtain ⟨W10, hW10⟩ : ∃ X, ((((W9.setCell ⟨z, 0, none⟩ (.int .i64 0)).setCell ⟨z, 1, none⟩ (.int .i64 0)).setCell ⟨z, 2, none⟩ (.int .i64 0)).setCell ⟨z, 3, none⟩ (.int .i64 0)).setCell ⟨z, 4, none⟩ (.slice none 0 0) = X := ⟨_, rfl⟩
                rw [hW10] at hHeld ⊢
                have d1 : Bk W10 (z + 1) 27 #[.int .i64 0] := by rw [← hW10]; exact put5_bk b1 (by omega)
                have d2 : Bk W10 (z + 1 + 1) 3 #[.int .i64 0] := by rw [← hW10]; exact put5_bk b2 (by omega)
                have dat : Bk W10 (k + 1) 3 #[.int .i64 (p : Int)] := by rw [← hW10]; exact put5_bk bat (by omega)
                have g1 : W10.cell? ⟨z + 1, 0, none⟩ = some (.int .i64 0) := d1.cell 0
                have h1' := d1.frozen 0
                refine wpAnyH_ready (rs := [3]) (by kernel_rfl) (by simp) (AllReadyH.cons rfl (fun K hK => ?_) AllReadyH.nil)
                rw [if_pos (by kernel_rfl)]
                go_simp
                refine hK.out _ _ ((dat.far (p := ⟨z + 1, 0, none⟩) (by show k + 1 ≠ z + 1; omega) _).cell 0) (fun hHeld => ?_)
                try simp only [lay]
                have e2 := d2.far (p := ⟨z + 1, 0, none⟩) (by show z + 1 + 1 ≠ z + 1; omega) (.int .i64 91)
                have g2 : (W10.setCell ⟨z + 1, 0, none⟩ (.int .i64 91)).cell? ⟨z + 1 + 1, 0, none⟩ = some (.int .i64 0) := e2.cell 0
                have h2' := e2.frozen 0
                refine wpAnyH_ready (rs := [4]) (by kernel_rfl) (by simp) (AllReadyH.cons rfl (fun K hK => ?_) AllReadyH.nil)
                rw [if_pos (by kernel_rfl)]
                go_simp
                refine hK.out _ _ (((dat.far (p := ⟨z + 1, 0, none⟩) (by show k + 1 ≠ z + 1; omega) _).far (p := ⟨z + 1 + 1, 0, none⟩) (by show k + 1 ≠ z + 1 + 1; omega) _).cell 0) (fun hHeld => ?_)
                try simp only [lay]
                refine wpAnyH_done (by kernel_rfl) ?_ _
                clear hHeld
                gi_wp2
                exact fin_bad HI.out HP.out b0 b1 b2 HF9.out.2.2.2.2.1 HF9.out.2.2.2.2.2 (fun c hc => .inr (by rw [HXl.out.1, line_take c _ L (by rw [HFF.out.1, HFF.out.2]; rfl), show c = Cv.cg x from by have := hc.symm.trans HRUN.out; injection this]; exact Option.not_isSome_iff_eq_none.1 (by rw [← HV.out]; simp))) hW10
              | true =>
                obtain ⟨E', x', hS', hok'⟩ := HVX.out rfl
                have c3 : u3.cell? ⟨k + 1, 0, none⟩ = some (.int .i64 (p : Int)) := at3.cell 0
                have f3 := at3.frozen 0
                have hp9 := HP9.out
                gi_wp2
                have hfin := fin_good HI.out HP.out HXl.out.1 HXl.out.2 (((Ch.of HB8.out).drew).trans HC3.out) hS' (fun c hc => by rw [line_take c _ L (by rw [HFF.out.1, HFF.out.2]; rfl), show c = Cv.cg x from by have := hc.symm.trans HRUN.out; injection this]; exact hok') (okC_ok hok')
                rw [World.size_setCell] at hfin
                exact hfin
            · rw [if_pos (by kernel_rfl)]
              go_simp
              refine hK.out _ _ trivial (fun hHeld => ?_)
              try simp only [lay]
              refine tk (some 41) 12 (v := ?_) rfl rfl ?_ hHeld ?_
              rotate_left
              · intro wz hSw; go_simp; try (with_reducible rfl)
              try simp only [lay]
              refine wpAnyH_ready (rs := [9]) (by kernel_rfl) (by simp) (AllReadyH.cons rfl (fun K hK => ?_) AllReadyH.nil)
              rw [if_pos (by kernel_rfl)]
              go_simp
              refine hK.out _ _ trivial (fun hHeld => ?_)
              try simp only [lay]
              refine tk (some 39) 10 (v := ?_) rfl rfl ?_ hHeld ?_
              rotate_left
              · intro wz hSw; go_simp; try (with_reducible rfl)
              try simp only [lay]
              refine tk (some 42) 13 (v := ?_) rfl rfl ?_ hHeld ?_
              rotate_left
              · intro wz hSw; go_simp; try (with_reducible rfl)
              try simp only [lay]
              refine tk (some 43) 14 (v := ?_) rfl rfl ?_ hHeld ?_
              rotate_left
              · intro wz hSw; go_simp; try (with_reducible rfl)
              try simp only [lay]
              refine tk (some 44) 15 (v := ?_) rfl rfl ?_ hHeld ?_
              rotate_left
              · intro wz hSw; go_simp; try (with_reducible rfl)
              try simp only [lay]
              refine tk (some 46) 17 (v := ?_) rfl rfl ?_ hHeld ?_
              rotate_left
              · intro wz hSw; go_simp; try (with_reducible rfl)
              try simp only [lay]
              refine tk (some 47) 18 (v := ?_) rfl rfl ?_ hHeld ?_
              rotate_left
              · intro wz hSw; go_simp; try (with_reducible rfl)
              try simp only [lay]
              refine wpAnyH_ready (rs := [16]) (by kernel_rfl) (by simp) (AllReadyH.cons rfl (fun K hK => ?_) AllReadyH.nil)
              rw [if_pos (by kernel_rfl)]
              go_simp
              refine hK.out _ _ trivial (fun hHeld => ?_)
              try simp only [lay]
              refine wpAnyH_ready (rs := [19]) (by kernel_rfl) (by simp) (AllReadyH.cons rfl (fun K hK => ?_) AllReadyH.nil)
              rw [if_pos (by kernel_rfl)]
              go_simp
              refine HTK.out.mono ?_
              rintro e2 u3 ⟨⟨v, rfl, hv, hx⟩, hch⟩
              try dsimp only
              have HV := Lib.hid hv
              have HVX := Lib.hid hx
              have HC3 := Lib.hid hch
              clear hv hx hch
              refine hK.out _ _ trivial (fun hHeld => ?_)
              try simp only [lay]
              refine tk (some 49) 20 (v := ?_) rfl rfl ?_ hHeld ?_
              rotate_left
              · intro wz hSw; go_simp; try (with_reducible rfl)
              try simp only [lay]
              refine tk (some 50) 21 (v := ?_) rfl rfl ?_ hHeld ?_
              rotate_left
              · intro wz hSw; go_simp; try (with_reducible rfl)
              try simp only [lay]
              refine wpAnyH_done (by kernel_rfl) ?_ _
              clear hHeld k0 k1 q0 q1
              have hzk4 := HI.out.zk
              have at3 : Bk u3 (k + 1) 3 #[.int .i64 (p : Int)] := HC3.out.bk ((HATh.out.below HB8.out HATh.out.lt).drew) (by omega) (by omega)
              cases v with
              | false =>
                gi_wp2
                obtain ⟨W9, hW9⟩ : ∃ X, u3.drew = X := ⟨_, rfl⟩
                have HF9 := Lib.hid (show Bk W9 z 24 cz5 ∧ Bk W9 (z + 1) 27 #[.int .i64 0] ∧ Bk W9 (z + 1 + 1) 3 #[.int .i64 0] ∧ Bk W9 (k + 1) 3 #[.int .i64 (p : Int)] ∧ Below z w W9 ∧ KeepsOthers W W9 by rw [← hW9]; exact ⟨(HC3.out.bk ((HI.out.r0.below HB8.out HI.out.r0.lt).drew) (by omega) (by omega)).drew, (HC3.out.bk ((HI.out.r1.below HB8.out HI.out.r1.lt).drew) (by omega) (by omega)).drew, (HC3.out.bk ((HI.out.r2.below HB8.out HI.out.r2.lt).drew) (by omega) (by omega)).drew, (at3).drew, (((HI.out.b.trans (HB8.out.mono (by have := HI.out.size; have := HI.out.zk; omega))).drew).trans (HC3.out.below (by omega) (by omega) (by have := HI.out.size; have := HB8.out.size; show z ≤ W8.heap.size; omega))).drew, (((below_keepsOthers HB8.out).trans (KeepsOthers.drew _)).trans HC3.out.oth).trans (KeepsOthers.drew _)⟩)
                try simp only [List.cons_append, List.nil_append]
                refine wpIn_region_held_drew (S := fun wz => wz.cell? ⟨k + 1, 0, none⟩ = some (.int .i64 (p : Int))) (by kernel_rfl) (by kernel_rfl) (fun hl => by obtain ⟨_, _, hl⟩ := hl; rcases (show KeepsOthers W _ ∧ ((Exit.outgrown = Exit.normal ∧ _) ∨ (Exit.outgrown = Exit.ret ∧ _)) from hl).2 with ⟨h, _⟩ | ⟨h, _⟩ <;> cases h) ((at3).drew.cell 0) (fun hHeld => ?_)
                rw [hW9] at hHeld ⊢
                refine tk (some 51) 0 (v := ?_) rfl rfl ?_ hHeld ?_
                rotate_left
                · intro wz hSw; have k1 := hSw; go_simp; try (with_reducible rfl)
                try simp only [lay]
                refine tk (some 52) 1 (v := ?_) rfl rfl ?_ hHeld ?_
                rotate_left
                · intro wz hSw; have k1 := hSw; go_simp; try (with_reducible rfl)
                try simp only [lay]
                have hzk3 := HI.out.zk
                obtain ⟨b0, b1, b2, bat, -, -⟩ := HF9.out
                have c0 : W9.cell? ⟨z, 0, none⟩ = some (.int .i64 0) := b0.cell 0
                have f0 := b0.frozen 0
                have c1 : W9.cell? ⟨z, 1, none⟩ = some (.int .i64 0) := b0.cell 1
                have f1 := b0.frozen 1
                have c2 : W9.cell? ⟨z, 2, none⟩ = some (.int .i64 0) := b0.cell 2
                have f2 := b0.frozen 2
                have c3 : W9.cell? ⟨z, 3, none⟩ = some (.int .i64 0) := b0.cell 3
                have f3 := b0.frozen 3
                have c4 : W9.cell? ⟨z, 4, none⟩ = some (.slice none 0 0) := b0.cell 4
                have f4 := b0.frozen 4
                refine wpAnyH_ready (rs := [2]) (by kernel_rfl) (by simp) (AllReadyH.cons rfl (fun K hK => ?_) AllReadyH.nil)
                rw [if_pos (by kernel_rfl)]
                go_simp
                have HX9 := Lib.hid (put5_bk bat (show k + 1 ≠ z by omega))
                refine hK.out _ _ (HX9.out.cell 0) (fun hHeld => ?_)
                try simp only [lay]
                obtain ⟨W10, hW10⟩ : ∃ X, ((((W9.setCell ⟨z, 0, none⟩ (.int .i64 0)).setCell ⟨z, 1, none⟩ (.int .i64 0)).setCell ⟨z, 2, none⟩ (.int .i64 0)).setCell ⟨z, 3, none⟩ (.int .i64 0)).setCell ⟨z, 4, none⟩ (.slice none 0 0) = X := ⟨_, rfl⟩
                rw [hW10] at hHeld ⊢
                have d1 : Bk W10 (z + 1) 27 #[.int .i64 0] := by rw [← hW10]; exact put5_bk b1 (by omega)
                have d2 : Bk W10 (z + 1 + 1) 3 #[.int .i64 0] := by rw [← hW10]; exact put5_bk b2 (by omega)
                have dat : Bk W10 (k + 1) 3 #[.int .i64 (p : Int)] := by rw [← hW10]; exact put5_bk bat (by omega)
                have g1 : W10.cell? ⟨z + 1, 0, none⟩ = some (.int .i64 0) := d1.cell 0
                have h1' := d1.frozen 0
                refine wpAnyH_ready (rs := [3]) (by kernel_rfl) (by simp) (AllReadyH.cons rfl (fun K hK => ?_) AllReadyH.nil)
                rw [if_pos (by kernel_rfl)]
                go_simp
                refine hK.out _ _ ((dat.far (p := ⟨z + 1, 0, none⟩) (by show k + 1 ≠ z + 1; omega) _).cell 0) (fun hHeld => ?_)
                try simp only [lay]
                have e2 := d2.far (p := ⟨z + 1, 0, none⟩) (by show z + 1 + 1 ≠ z + 1; omega) (.int .i64 91)
                have g2 : (W10.setCell ⟨z + 1, 0, none⟩ (.int .i64 91)).cell? ⟨z + 1 + 1, 0, none⟩ = some (.int .i64 0) := e2.cell 0
                have h2' := e2.frozen 0
                refine wpAnyH_ready (rs := [4]) (by kernel_rfl) (by simp) (AllReadyH.cons rfl (fun K hK => ?_) AllReadyH.nil)
                rw [if_pos (by kernel_rfl)]
                go_simp
                refine hK.out _ _ (((dat.far (p := ⟨z + 1, 0, none⟩) (by show k + 1 ≠ z + 1; omega) _).far (p := ⟨z + 1 + 1, 0, none⟩) (by show k + 1 ≠ z + 1 + 1; omega) _).cell 0) (fun hHeld => ?_)
                try simp only [lay]
                refine wpAnyH_done (by kernel_rfl) ?_ _
                clear hHeld
                gi_wp2
                exact fin_bad HI.out HP.out b0 b1 b2 HF9.out.2.2.2.2.1 HF9.out.2.2.2.2.2 (fun c hc => .inr (by rw [HXl.out.1, line_take c _ L (by rw [HFF.out.1, HFF.out.2]; rfl), show c = Cv.cg x from by have := hc.symm.trans HRUN.out; injection this]; exact Option.not_isSome_iff_eq_none.1 (by rw [← HV.out]; simp))) hW10
              | true =>
                obtain ⟨E', x', hS', hok'⟩ := HVX.out rfl
                have c3 : u3.cell? ⟨k + 1, 0, none⟩ = some (.int .i64 (p : Int)) := at3.cell 0
                have f3 := at3.frozen 0
                have hp9 := HP9.out
                gi_wp2
                have hfin := fin_good HI.out HP.out HXl.out.1 HXl.out.2 (((Ch.of HB8.out).drew).trans HC3.out) hS' (fun c hc => by rw [line_take c _ L (by rw [HFF.out.1, HFF.out.2]; rfl), show c = Cv.cg x from by have := hc.symm.trans HRUN.out; injection this]; exact hok') (okC_ok hok')
                rw [World.size_setCell] at hfin
                exact hfin
          · obtain ⟨E, x, hSx, hSm, hrun⟩ := HI.out.st
            have HRUN := Lib.hid hrun
            obtain ⟨m, hm⟩ : ∃ m, n - 1 = m := ⟨_, rfl⟩
            have hn1' : (1 : Int) ≤ (n : Int) := by omega
            have hLm : L.length = m := by rw [← hm, ← HN.out]; simp
            obtain ⟨oo, hoo, hwd⟩ : ∃ oo, (if n = 1 then (some ⟨xb, 0, none⟩ : Option Addr) else some ⟨xb, 1, none⟩) = some ⟨xb, oo, none⟩ ∧ Wd W8.drew (k + 3) xb oo (L.map bs) := by
              have hb8 := (HRx.out.2.below HB8.out HRx.out.2.lt).drew
              by_cases h : n = 1
              · refine ⟨0, by rw [if_pos h], HRx.out.1, ⟨_, hb8⟩, fun i hi => ?_⟩
                rw [List.length_map] at hi; omega
              · exact ⟨1, by rw [if_neg h], Wd.rest HRx.out.1 hb8⟩
            have HTK := Lib.hid (take_any HKD.out rfl W8.drew (k + 3) (z + 1 + 1 + 1) E x xb oo m m L (hSx.on (HB8.out.drew)) hSm hwd hLm (fun l hl => HSM.out l (List.mem_cons_of_mem _ hl)) (by omega))
            clear hSx hSm hrun hwd hLm
            have k0 : W8.drew.cell? ⟨xb, 0, none⟩ = some (.string (bs kw)) := ((HRx.out.2.below HB8.out HRx.out.2.lt).drew).cell 0
            have k1 : W8.drew.cell? ⟨k + 1, 0, none⟩ = some (.int .i64 (p : Int)) := ((HATh.out.below HB8.out HATh.out.lt).drew).cell 0
            have q0 : W8.drew.cell? ⟨W.heap.size, 0, none⟩ = some (.int .i64 many) := (HK8.out.drew).cell 0
            have q1 : W8.drew.cell? ⟨W.heap.size, 1, none⟩ = some (.func (.func fi) #[] #[]) := (HK8.out.drew).cell 1
            try simp only [List.cons_append, List.nil_append]
            refine wpIn_region_held_drew (S := fun _ => True) (by kernel_rfl) (by kernel_rfl) (fun hl => by obtain ⟨_, _, hl⟩ := hl; rcases (show KeepsOthers W _ ∧ ((Exit.outgrown = Exit.normal ∧ _) ∨ (Exit.outgrown = Exit.ret ∧ _)) from hl).2 with ⟨h, _⟩ | ⟨h, _⟩ <;> cases h) (trivial) (fun hHeld => ?_)
            refine tk (some 29) 0 (v := ?_) rfl rfl ?_ hHeld ?_
            rotate_left
            · intro wz hSw; go_simp; try (with_reducible rfl)
            try simp only [lay]
            refine tk (some 30) 1 (v := ?_) rfl rfl ?_ hHeld ?_
            rotate_left
            · intro wz hSw; go_simp; try (with_reducible rfl)
            try simp only [lay]
            refine tk (some 31) 2 (v := ?_) rfl rfl ?_ hHeld ?_
            rotate_left
            · intro wz hSw; go_simp; try (with_reducible rfl)
            try simp only [lay]
            refine tk (some 32) 3 (v := ?_) rfl rfl ?_ hHeld ?_
            rotate_left
            · intro wz hSw; go_simp; try (with_reducible rfl)
            try simp only [lay]
            refine tk (some 33) 4 (v := ?_) rfl rfl ?_ hHeld ?_
            rotate_left
            · intro wz hSw; go_simp; try (with_reducible rfl)
            try simp only [lay]
            refine tk (some 34) 5 (v := ?_) rfl rfl ?_ hHeld ?_
            rotate_left
            · intro wz hSw; go_simp; try (with_reducible rfl)
            try simp only [lay]
            refine tk (some 35) 6 (v := ?_) rfl rfl ?_ hHeld ?_
            rotate_left
            · intro wz hSw; go_simp; try (with_reducible rfl)
            try simp only [lay]
            refine tk (some 36) 7 (v := ?_) rfl rfl ?_ hHeld ?_
            rotate_left
            · intro wz hSw; go_simp; try (with_reducible rfl)
            try simp only [lay]
            refine tk (some 37) 8 (v := ?_) rfl rfl ?_ hHeld ?_
            rotate_left
            · intro wz hSw; go_simp; try (with_reducible rfl)
            try simp only [lay]
            refine wpAnyH_ready (rs := [9, 11]) (by kernel_rfl) (by simp) (AllReadyH.cons rfl (fun K hK => ?_) (AllReadyH.cons rfl (fun K hK => ?_) AllReadyH.nil))
            · rw [if_pos (by kernel_rfl)]
              go_simp
              refine hK.out _ _ trivial (fun hHeld => ?_)
              try simp only [lay]
              refine tk (some 39) 10 (v := ?_) rfl rfl ?_ hHeld ?_
              rotate_left
              · intro wz hSw; go_simp; try (with_reducible rfl)
              try simp only [lay]
              refine wpAnyH_ready (rs := [11]) (by kernel_rfl) (by simp) (AllReadyH.cons rfl (fun K hK => ?_) AllReadyH.nil)
              rw [if_pos (by kernel_rfl)]
              go_simp
              refine hK.out _ _ trivial (fun hHeld => ?_)
              try simp only [lay]
              refine tk (some 41) 12 (v := ?_) rfl rfl ?_ hHeld ?_
              rotate_left
              · intro wz hSw; go_simp; try (with_reducible rfl)
              try simp only [lay]
              refine tk (some 42) 13 (v := ?_) rfl rfl ?_ hHeld ?_
              rotate_left
              · intro wz hSw; go_simp; try (with_reducible rfl)
              try simp only [lay]
              refine tk (some 43) 14 (v := ?_) rfl rfl ?_ hHeld ?_
              rotate_left
              · intro wz hSw; go_simp; try (with_reducible rfl)
              try simp only [lay]
              refine tk (some 44) 15 (v := ?_) rfl rfl ?_ hHeld ?_
              rotate_left
              · intro wz hSw; go_simp; try (with_reducible rfl)
              try simp only [lay]
              refine tk (some 46) 17 (v := ?_) rfl rfl ?_ hHeld ?_
              rotate_left
              · intro wz hSw; go_simp; try (with_reducible rfl)
              try simp only [lay]
              refine tk (some 47) 18 (v := ?_) rfl rfl ?_ hHeld ?_
              rotate_left
              · intro wz hSw; go_simp; try (with_reducible rfl)
              try simp only [lay]
              refine wpAnyH_ready (rs := [16]) (by kernel_rfl) (by simp) (AllReadyH.cons rfl (fun K hK => ?_) AllReadyH.nil)
              rw [if_pos (by kernel_rfl)]
              go_simp
              refine hK.out _ _ trivial (fun hHeld => ?_)
              try simp only [lay]
              refine wpAnyH_ready (rs := [19]) (by kernel_rfl) (by simp) (AllReadyH.cons rfl (fun K hK => ?_) AllReadyH.nil)
              rw [if_pos (by kernel_rfl)]
              go_simp
              refine HTK.out.mono ?_
              rintro e2 u3 ⟨⟨v, rfl, hv, hx⟩, hch⟩
              try dsimp only
              have HV := Lib.hid hv
              have HVX := Lib.hid hx
              have HC3 := Lib.hid hch
              clear hv hx hch
              refine hK.out _ _ trivial (fun hHeld => ?_)
              try simp only [lay]
              refine tk (some 49) 20 (v := ?_) rfl rfl ?_ hHeld ?_
              rotate_left
              · intro wz hSw; go_simp; try (with_reducible rfl)
              try simp only [lay]
              refine tk (some 50) 21 (v := ?_) rfl rfl ?_ hHeld ?_
              rotate_left
              · intro wz hSw; go_simp; try (with_reducible rfl)
              try simp only [lay]
              refine wpAnyH_done (by kernel_rfl) ?_ _
              clear hHeld k0 k1 q0 q1
              have hzk4 := HI.out.zk
              have at3 : Bk u3 (k + 1) 3 #[.int .i64 (p : Int)] := HC3.out.bk ((HATh.out.below HB8.out HATh.out.lt).drew) (by omega) (by omega)
              cases v with
              | false =>
                gi_wp2
                obtain ⟨W9, hW9⟩ : ∃ X, u3.drew = X := ⟨_, rfl⟩
                have HF9 := Lib.hid (show Bk W9 z 24 cz5 ∧ Bk W9 (z + 1) 27 #[.int .i64 0] ∧ Bk W9 (z + 1 + 1) 3 #[.int .i64 0] ∧ Bk W9 (k + 1) 3 #[.int .i64 (p : Int)] ∧ Below z w W9 ∧ KeepsOthers W W9 by rw [← hW9]; exact ⟨(HC3.out.bk ((HI.out.r0.below HB8.out HI.out.r0.lt).drew) (by omega) (by omega)).drew, (HC3.out.bk ((HI.out.r1.below HB8.out HI.out.r1.lt).drew) (by omega) (by omega)).drew, (HC3.out.bk ((HI.out.r2.below HB8.out HI.out.r2.lt).drew) (by omega) (by omega)).drew, (at3).drew, (((HI.out.b.trans (HB8.out.mono (by have := HI.out.size; have := HI.out.zk; omega))).drew).trans (HC3.out.below (by omega) (by omega) (by have := HI.out.size; have := HB8.out.size; show z ≤ W8.heap.size; omega))).drew, (((below_keepsOthers HB8.out).trans (KeepsOthers.drew _)).trans HC3.out.oth).trans (KeepsOthers.drew _)⟩)
                try simp only [List.cons_append, List.nil_append]
                refine wpIn_region_held_drew (S := fun wz => wz.cell? ⟨k + 1, 0, none⟩ = some (.int .i64 (p : Int))) (by kernel_rfl) (by kernel_rfl) (fun hl => by obtain ⟨_, _, hl⟩ := hl; rcases (show KeepsOthers W _ ∧ ((Exit.outgrown = Exit.normal ∧ _) ∨ (Exit.outgrown = Exit.ret ∧ _)) from hl).2 with ⟨h, _⟩ | ⟨h, _⟩ <;> cases h) ((at3).drew.cell 0) (fun hHeld => ?_)
                rw [hW9] at hHeld ⊢
                refine tk (some 51) 0 (v := ?_) rfl rfl ?_ hHeld ?_
                rotate_left
                · intro wz hSw; have k1 := hSw; go_simp; try (with_reducible rfl)
                try simp only [lay]
                refine tk (some 52) 1 (v := ?_) rfl rfl ?_ hHeld ?_
                rotate_left
                · intro wz hSw; have k1 := hSw; go_simp; try (with_reducible rfl)
                try simp only [lay]
                have hzk3 := HI.out.zk
                obtain ⟨b0, b1, b2, bat, -, -⟩ := HF9.out
                have c0 : W9.cell? ⟨z, 0, none⟩ = some (.int .i64 0) := b0.cell 0
                have f0 := b0.frozen 0
                have c1 : W9.cell? ⟨z, 1, none⟩ = some (.int .i64 0) := b0.cell 1
                have f1 := b0.frozen 1
                have c2 : W9.cell? ⟨z, 2, none⟩ = some (.int .i64 0) := b0.cell 2
                have f2 := b0.frozen 2
                have c3 : W9.cell? ⟨z, 3, none⟩ = some (.int .i64 0) := b0.cell 3
                have f3 := b0.frozen 3
                have c4 : W9.cell? ⟨z, 4, none⟩ = some (.slice none 0 0) := b0.cell 4
                have f4 := b0.frozen 4
                refine wpAnyH_ready (rs := [2]) (by kernel_rfl) (by simp) (AllReadyH.cons rfl (fun K hK => ?_) AllReadyH.nil)
                rw [if_pos (by kernel_rfl)]
                go_simp
                have HX9 := Lib.hid (put5_bk bat (show k + 1 ≠ z by omega))
                refine hK.out _ _ (HX9.out.cell 0) (fun hHeld => ?_)
                try simp only [lay]
                obtain ⟨W10, hW10⟩ : ∃ X, ((((W9.setCell ⟨z, 0, none⟩ (.int .i64 0)).setCell ⟨z, 1, none⟩ (.int .i64 0)).setCell ⟨z, 2, none⟩ (.int .i64 0)).setCell ⟨z, 3, none⟩ (.int .i64 0)).setCell ⟨z, 4, none⟩ (.slice none 0 0) = X := ⟨_, rfl⟩
                rw [hW10] at hHeld ⊢
                have d1 : Bk W10 (z + 1) 27 #[.int .i64 0] := by rw [← hW10]; exact put5_bk b1 (by omega)
                have d2 : Bk W10 (z + 1 + 1) 3 #[.int .i64 0] := by rw [← hW10]; exact put5_bk b2 (by omega)
                have dat : Bk W10 (k + 1) 3 #[.int .i64 (p : Int)] := by rw [← hW10]; exact put5_bk bat (by omega)
                have g1 : W10.cell? ⟨z + 1, 0, none⟩ = some (.int .i64 0) := d1.cell 0
                have h1' := d1.frozen 0
                refine wpAnyH_ready (rs := [3]) (by kernel_rfl) (by simp) (AllReadyH.cons rfl (fun K hK => ?_) AllReadyH.nil)
                rw [if_pos (by kernel_rfl)]
                go_simp
                refine hK.out _ _ ((dat.far (p := ⟨z + 1, 0, none⟩) (by show k + 1 ≠ z + 1; omega) _).cell 0) (fun hHeld => ?_)
                try simp only [lay]
                have e2 := d2.far (p := ⟨z + 1, 0, none⟩) (by show z + 1 + 1 ≠ z + 1; omega) (.int .i64 91)
                have g2 : (W10.setCell ⟨z + 1, 0, none⟩ (.int .i64 91)).cell? ⟨z + 1 + 1, 0, none⟩ = some (.int .i64 0) := e2.cell 0
                have h2' := e2.frozen 0
                refine wpAnyH_ready (rs := [4]) (by kernel_rfl) (by simp) (AllReadyH.cons rfl (fun K hK => ?_) AllReadyH.nil)
                rw [if_pos (by kernel_rfl)]
                go_simp
                refine hK.out _ _ (((dat.far (p := ⟨z + 1, 0, none⟩) (by show k + 1 ≠ z + 1; omega) _).far (p := ⟨z + 1 + 1, 0, none⟩) (by show k + 1 ≠ z + 1 + 1; omega) _).cell 0) (fun hHeld => ?_)
                try simp only [lay]
                refine wpAnyH_done (by kernel_rfl) ?_ _
                clear hHeld
                gi_wp2
                exact fin_bad HI.out HP.out b0 b1 b2 HF9.out.2.2.2.2.1 HF9.out.2.2.2.2.2 (fun c hc => .inr (by rw [HXl.out.1, line_take c _ L (by rw [HFF.out.1, HFF.out.2]; rfl), show c = Cv.cg x from by have := hc.symm.trans HRUN.out; injection this]; exact Option.not_isSome_iff_eq_none.1 (by rw [← HV.out]; simp))) hW10
              | true =>
                obtain ⟨E', x', hS', hok'⟩ := HVX.out rfl
                have c3 : u3.cell? ⟨k + 1, 0, none⟩ = some (.int .i64 (p : Int)) := at3.cell 0
                have f3 := at3.frozen 0
                have hp9 := HP9.out
                gi_wp2
                have hfin := fin_good HI.out HP.out HXl.out.1 HXl.out.2 (((Ch.of HB8.out).drew).trans HC3.out) hS' (fun c hc => by rw [line_take c _ L (by rw [HFF.out.1, HFF.out.2]; rfl), show c = Cv.cg x from by have := hc.symm.trans HRUN.out; injection this]; exact hok') (okC_ok hok')
                rw [World.size_setCell] at hfin
                exact hfin
            · rw [if_pos (by kernel_rfl)]
              go_simp
              refine hK.out _ _ trivial (fun hHeld => ?_)
              try simp only [lay]
              refine tk (some 41) 12 (v := ?_) rfl rfl ?_ hHeld ?_
              rotate_left
              · intro wz hSw; go_simp; try (with_reducible rfl)
              try simp only [lay]
              refine wpAnyH_ready (rs := [9]) (by kernel_rfl) (by simp) (AllReadyH.cons rfl (fun K hK => ?_) AllReadyH.nil)
              rw [if_pos (by kernel_rfl)]
              go_simp
              refine hK.out _ _ trivial (fun hHeld => ?_)
              try simp only [lay]
              refine tk (some 39) 10 (v := ?_) rfl rfl ?_ hHeld ?_
              rotate_left
              · intro wz hSw; go_simp; try (with_reducible rfl)
              try simp only [lay]
              refine tk (some 42) 13 (v := ?_) rfl rfl ?_ hHeld ?_
              rotate_left
              · intro wz hSw; go_simp; try (with_reducible rfl)
              try simp only [lay]
              refine tk (some 43) 14 (v := ?_) rfl rfl ?_ hHeld ?_
              rotate_left
              · intro wz hSw; go_simp; try (with_reducible rfl)
              try simp only [lay]
              refine tk (some 44) 15 (v := ?_) rfl rfl ?_ hHeld ?_
              rotate_left
              · intro wz hSw; go_simp; try (with_reducible rfl)
              try simp only [lay]
              refine tk (some 46) 17 (v := ?_) rfl rfl ?_ hHeld ?_
              rotate_left
              · intro wz hSw; go_simp; try (with_reducible rfl)
              try simp only [lay]
              refine tk (some 47) 18 (v := ?_) rfl rfl ?_ hHeld ?_
              rotate_left
              · intro wz hSw; go_simp; try (with_reducible rfl)
              try simp only [lay]
              refine wpAnyH_ready (rs := [16]) (by kernel_rfl) (by simp) (AllReadyH.cons rfl (fun K hK => ?_) AllReadyH.nil)
              rw [if_pos (by kernel_rfl)]
              go_simp
              refine hK.out _ _ trivial (fun hHeld => ?_)
              try simp only [lay]
              refine wpAnyH_ready (rs := [19]) (by kernel_rfl) (by simp) (AllReadyH.cons rfl (fun K hK => ?_) AllReadyH.nil)
              rw [if_pos (by kernel_rfl)]
              go_simp
              refine HTK.out.mono ?_
              rintro e2 u3 ⟨⟨v, rfl, hv, hx⟩, hch⟩
              try dsimp only
              have HV := Lib.hid hv
              have HVX := Lib.hid hx
              have HC3 := Lib.hid hch
              clear hv hx hch
              refine hK.out _ _ trivial (fun hHeld => ?_)
              try simp only [lay]
              refine tk (some 49) 20 (v := ?_) rfl rfl ?_ hHeld ?_
              rotate_left
              · intro wz hSw; go_simp; try (with_reducible rfl)
              try simp only [lay]
              refine tk (some 50) 21 (v := ?_) rfl rfl ?_ hHeld ?_
              rotate_left
              · intro wz hSw; go_simp; try (with_reducible rfl)
              try simp only [lay]
              refine wpAnyH_done (by kernel_rfl) ?_ _
              clear hHeld k0 k1 q0 q1
              have hzk4 := HI.out.zk
              have at3 : Bk u3 (k + 1) 3 #[.int .i64 (p : Int)] := HC3.out.bk ((HATh.out.below HB8.out HATh.out.lt).drew) (by omega) (by omega)
              cases v with
              | false =>
                gi_wp2
                obtain ⟨W9, hW9⟩ : ∃ X, u3.drew = X := ⟨_, rfl⟩
                have HF9 := Lib.hid (show Bk W9 z 24 cz5 ∧ Bk W9 (z + 1) 27 #[.int .i64 0] ∧ Bk W9 (z + 1 + 1) 3 #[.int .i64 0] ∧ Bk W9 (k + 1) 3 #[.int .i64 (p : Int)] ∧ Below z w W9 ∧ KeepsOthers W W9 by rw [← hW9]; exact ⟨(HC3.out.bk ((HI.out.r0.below HB8.out HI.out.r0.lt).drew) (by omega) (by omega)).drew, (HC3.out.bk ((HI.out.r1.below HB8.out HI.out.r1.lt).drew) (by omega) (by omega)).drew, (HC3.out.bk ((HI.out.r2.below HB8.out HI.out.r2.lt).drew) (by omega) (by omega)).drew, (at3).drew, (((HI.out.b.trans (HB8.out.mono (by have := HI.out.size; have := HI.out.zk; omega))).drew).trans (HC3.out.below (by omega) (by omega) (by have := HI.out.size; have := HB8.out.size; show z ≤ W8.heap.size; omega))).drew, (((below_keepsOthers HB8.out).trans (KeepsOthers.drew _)).trans HC3.out.oth).trans (KeepsOthers.drew _)⟩)
                try simp only [List.cons_append, List.nil_append]
                refine wpIn_region_held_drew (S := fun wz => wz.cell? ⟨k + 1, 0, none⟩ = some (.int .i64 (p : Int))) (by kernel_rfl) (by kernel_rfl) (fun hl => by obtain ⟨_, _, hl⟩ := hl; rcases (show KeepsOthers W _ ∧ ((Exit.outgrown = Exit.normal ∧ _) ∨ (Exit.outgrown = Exit.ret ∧ _)) from hl).2 with ⟨h, _⟩ | ⟨h, _⟩ <;> cases h) ((at3).drew.cell 0) (fun hHeld => ?_)
                rw [hW9] at hHeld ⊢
                refine tk (some 51) 0 (v := ?_) rfl rfl ?_ hHeld ?_
                rotate_left
                · intro wz hSw; have k1 := hSw; go_simp; try (with_reducible rfl)
                try simp only [lay]
                refine tk (some 52) 1 (v := ?_) rfl rfl ?_ hHeld ?_
                rotate_left
                · intro wz hSw; have k1 := hSw; go_simp; try (with_reducible rfl)
                try simp only [lay]
                have hzk3 := HI.out.zk
                obtain ⟨b0, b1, b2, bat, -, -⟩ := HF9.out
                have c0 : W9.cell? ⟨z, 0, none⟩ = some (.int .i64 0) := b0.cell 0
                have f0 := b0.frozen 0
                have c1 : W9.cell? ⟨z, 1, none⟩ = some (.int .i64 0) := b0.cell 1
                have f1 := b0.frozen 1
                have c2 : W9.cell? ⟨z, 2, none⟩ = some (.int .i64 0) := b0.cell 2
                have f2 := b0.frozen 2
                have c3 : W9.cell? ⟨z, 3, none⟩ = some (.int .i64 0) := b0.cell 3
                have f3 := b0.frozen 3
                have c4 : W9.cell? ⟨z, 4, none⟩ = some (.slice none 0 0) := b0.cell 4
                have f4 := b0.frozen 4
                refine wpAnyH_ready (rs := [2]) (by kernel_rfl) (by simp) (AllReadyH.cons rfl (fun K hK => ?_) AllReadyH.nil)
                rw [if_pos (by kernel_rfl)]
                go_simp
                have HX9 := Lib.hid (put5_bk bat (show k + 1 ≠ z by omega))
                refine hK.out _ _ (HX9.out.cell 0) (fun hHeld => ?_)
                try simp only [lay]
                obtain ⟨W10, hW10⟩ : ∃ X, ((((W9.setCell ⟨z, 0, none⟩ (.int .i64 0)).setCell ⟨z, 1, none⟩ (.int .i64 0)).setCell ⟨z, 2, none⟩ (.int .i64 0)).setCell ⟨z, 3, none⟩ (.int .i64 0)).setCell ⟨z, 4, none⟩ (.slice none 0 0) = X := ⟨_, rfl⟩
                rw [hW10] at hHeld ⊢
                have d1 : Bk W10 (z + 1) 27 #[.int .i64 0] := by rw [← hW10]; exact put5_bk b1 (by omega)
                have d2 : Bk W10 (z + 1 + 1) 3 #[.int .i64 0] := by rw [← hW10]; exact put5_bk b2 (by omega)
                have dat : Bk W10 (k + 1) 3 #[.int .i64 (p : Int)] := by rw [← hW10]; exact put5_bk bat (by omega)
                have g1 : W10.cell? ⟨z + 1, 0, none⟩ = some (.int .i64 0) := d1.cell 0
                have h1' := d1.frozen 0
                refine wpAnyH_ready (rs := [3]) (by kernel_rfl) (by simp) (AllReadyH.cons rfl (fun K hK => ?_) AllReadyH.nil)
                rw [if_pos (by kernel_rfl)]
                go_simp
                refine hK.out _ _ ((dat.far (p := ⟨z + 1, 0, none⟩) (by show k + 1 ≠ z + 1; omega) _).cell 0) (fun hHeld => ?_)
                try simp only [lay]
                have e2 := d2.far (p := ⟨z + 1, 0, none⟩) (by show z + 1 + 1 ≠ z + 1; omega) (.int .i64 91)
                have g2 : (W10.setCell ⟨z + 1, 0, none⟩ (.int .i64 91)).cell? ⟨z + 1 + 1, 0, none⟩ = some (.int .i64 0) := e2.cell 0
                have h2' := e2.frozen 0
                refine wpAnyH_ready (rs := [4]) (by kernel_rfl) (by simp) (AllReadyH.cons rfl (fun K hK => ?_) AllReadyH.nil)
                rw [if_pos (by kernel_rfl)]
                go_simp
                refine hK.out _ _ (((dat.far (p := ⟨z + 1, 0, none⟩) (by show k + 1 ≠ z + 1; omega) _).far (p := ⟨z + 1 + 1, 0, none⟩) (by show k + 1 ≠ z + 1 + 1; omega) _).cell 0) (fun hHeld => ?_)
                try simp only [lay]
                refine wpAnyH_done (by kernel_rfl) ?_ _
                clear hHeld
                gi_wp2
                exact fin_bad HI.out HP.out b0 b1 b2 HF9.out.2.2.2.2.1 HF9.out.2.2.2.2.2 (fun c hc => .inr (by rw [HXl.out.1, line_take c _ L (by rw [HFF.out.1, HFF.out.2]; rfl), show c = Cv.cg x from by have := hc.symm.trans HRUN.out; injection this]; exact Option.not_isSome_iff_eq_none.1 (by rw [← HV.out]; simp))) hW10
              | true =>
                obtain ⟨E', x', hS', hok'⟩ := HVX.out rfl
                have c3 : u3.cell? ⟨k + 1, 0, none⟩ = some (.int .i64 (p : Int)) := at3.cell 0
                have f3 := at3.frozen 0
                have hp9 := HP9.out
                gi_wp2
                have hfin := fin_good HI.out HP.out HXl.out.1 HXl.out.2 (((Ch.of HB8.out).drew).trans HC3.out) hS' (fun c hc => by rw [line_take c _ L (by rw [HFF.out.1, HFF.out.2]; rfl), show c = Cv.cg x from by have := hc.symm.trans HRUN.out; injection this]; exact hok') (okC_ok hok')
                rw [World.size_setCell] at hfin
                exact hfin
  case done =>
    rintro D xs W hD hS hI hK
    obtain ⟨E, x, hSx, hSm, hrun⟩ := hI.st
    have hpar : parseC s = if xs.length = 0 then .error 0 else .ok x.cg := by
      rw [parse_lns, ← hS]
      have := run_done hrun
      rw [List.length_map] at this
      exact this
    have HPAR := Lib.hid hpar
    obtain ⟨p, hp⟩ : ∃ p, xs.length = p := ⟨_, rfl⟩
    have hat := hI.at_
    rw [hp] at hat HPAR
    obtain ⟨a0, a1, a2, a3, ts, A, c⟩ := x
    obtain ⟨n, hn⟩ : ∃ n, ts.length = n := ⟨_, rfl⟩
    have ca : W.cell? ⟨k + 1, 0, none⟩ = some (.int .i64 (p : Int)) := hat.cell 0
    have c0 : W.cell? ⟨z, 0, none⟩ = some (.int .i64 0) := hI.r0.cell 0
    have f0 := hI.r0.frozen 0
    have d0 : W.cell? ⟨z + 1 + 1 + 1, 0, none⟩ = some (.int .i64 a0) := hSx.blk.cell 0
    have c1 : W.cell? ⟨z, 1, none⟩ = some (.int .i64 0) := hI.r0.cell 1
    have f1 := hI.r0.frozen 1
    have d1 : W.cell? ⟨z + 1 + 1 + 1, 1, none⟩ = some (.int .i64 a1) := hSx.blk.cell 1
    have c2 : W.cell? ⟨z, 2, none⟩ = some (.int .i64 0) := hI.r0.cell 2
    have f2 := hI.r0.frozen 2
    have d2 : W.cell? ⟨z + 1 + 1 + 1, 2, none⟩ = some (.int .i64 a2) := hSx.blk.cell 2
    have c3 : W.cell? ⟨z, 3, none⟩ = some (.int .i64 0) := hI.r0.cell 3
    have f3 := hI.r0.frozen 3
    have d3 : W.cell? ⟨z + 1 + 1 + 1, 3, none⟩ = some (.int .i64 a3) := hSx.blk.cell 3
    have c4 : W.cell? ⟨z, 4, none⟩ = some (.slice none 0 0) := hI.r0.cell 4
    have f4 := hI.r0.frozen 4
    have d4 : W.cell? ⟨z + 1 + 1 + 1, 4, none⟩ = some (.slice A ts.length c) := hSx.blk.cell 4
    rw [hn] at d4
    have g1 : W.cell? ⟨z + 1, 0, none⟩ = some (.int .i64 0) := hI.r1.cell 0
    have g1' := hI.r1.frozen 0
    have g2 : W.cell? ⟨z + 1 + 1, 0, none⟩ = some (.int .i64 0) := hI.r2.cell 0
    have g2' := hI.r2.frozen 0
    have HI := Lib.hid hI
    have HSX := Lib.hid hSx
    have HSM := Lib.hid hSm
    have HKD := Lib.hid hK
    have HD := Lib.hid (show k + 3 ≤ D by omega)
    have HNN := Lib.hid hn
    clear hI hSx hSm hrun hpar hp hat hK hS hn hD
    by_cases h0 : p = 0
    · have hp0 : ((p : Int) == 0) = true := by rw [beq_iff_eq]; omega
      have hz0 : z ≠ z + 1 := by omega
      gi_wp2
      obtain ⟨U, hU⟩ : ∃ U, (((((((W.setCell ⟨z, 0, none⟩ (.int .i64 0)).setCell ⟨z, 1, none⟩ (.int .i64 0)).setCell ⟨z, 2, none⟩ (.int .i64 0)).setCell ⟨z, 3, none⟩ (.int .i64 0)).setCell ⟨z, 4, none⟩ (.slice none 0 0)).setCell ⟨z + 1, 0, none⟩ (.int .i64 91)).setCell ⟨z + 1 + 1, 0, none⟩ (.int .i64 0)) = U := ⟨_, rfl⟩
      try rw [hU]
      have v0 := put5_z (u := W) (z := z) HI.out.r0
      have v1 := put5_bk (u := W) (z := z) HI.out.r1 (by omega)
      have v2 := put5_bk (u := W) (z := z) HI.out.r2 (by omega)
      have y0 : Bk U z 24 cz5 := hU ▸ ((v0.far (p := ⟨z + 1, 0, none⟩) (by show z ≠ z + 1; omega) (.int .i64 91)).far (p := ⟨z + 1 + 1, 0, none⟩) (by show z ≠ z + 1 + 1; omega) (.int .i64 0))
      have y1 : Bk U (z + 1) 27 #[.int .i64 91] := hU ▸ ((v1.set 0 (.int .i64 91)).far (p := ⟨z + 1 + 1, 0, none⟩) (by show z + 1 ≠ z + 1 + 1; omega) (.int .i64 0))
      have y2 : Bk U (z + 1 + 1) 3 #[.int .i64 0] := hU ▸ ((v2.far (p := ⟨z + 1, 0, none⟩) (by show z + 1 + 1 ≠ z + 1; omega) (.int .i64 91)).set 0 (.int .i64 0))
      have y3 : Below z w U := hU ▸ (((HI.out.b.trans (put5_below (u := W) (z := z))).setCell (p := ⟨z + 1, 0, none⟩) (by show z ≤ z + 1; omega) (.int .i64 91)).setCell (p := ⟨z + 1 + 1, 0, none⟩) (by show z ≤ z + 1 + 1; omega) (.int .i64 0))
      have y4 : U.heap[D]? = some (.deferred (some [])) := hU ▸ (((put5_keeps (u := W) (z := z)).trans ((KeepsOthers.setCell _ ⟨z + 1, 0, none⟩ (.int .i64 91)).trans (KeepsOthers.setCell _ ⟨z + 1 + 1, 0, none⟩ (.int .i64 0)))).same D _ HKD.out rfl)
      exact parE_bad (HZ.out) hs (by have := HPAR.out; rwa [if_pos h0] at this) HD.out (by omega) y0 y1 y2 y3 y4 rfl rfl rfl
    · have hp0 : ((p : Int) == 0) = false := by rw [beq_eq_false_iff_ne]; omega
      gi_wp2
      obtain ⟨U, hU⟩ : ∃ U, (((((((W.setCell ⟨z, 0, none⟩ (.int .i64 a0)).setCell ⟨z, 1, none⟩ (.int .i64 a1)).setCell ⟨z, 2, none⟩ (.int .i64 a2)).setCell ⟨z, 3, none⟩ (.int .i64 a3)).setCell ⟨z, 4, none⟩ (.slice A n c)).setCell ⟨z + 1, 0, none⟩ (.int .i64 0)).setCell ⟨z + 1 + 1, 0, none⟩ (.int .i64 0)) = U := ⟨_, rfl⟩
      try rw [hU]
      obtain ⟨y0, y1, y2, y3, y5⟩ := seven_at (n := n) (c := c) (A := A) (a0 := a0) (a1 := a1) (a2 := a2) (a3 := a3) HI.out.r0 HI.out.r1 HI.out.r2
      have hS7 := HSX.out.seven HI.out.r0 HI.out.r1 HI.out.r2 (.int .i64 a0) (.int .i64 a1) (.int .i64 a2) (.int .i64 a3) (.slice A n c) (.int .i64 0) (.int .i64 0)
      rw [hU] at y0 y1 y2 y3 y5 hS7
      rw [← HNN.out] at y0
      exact parE_ok HZ.out hs (by have := HPAR.out; rwa [if_neg h0] at this) (by have := HD.out; omega) y0 y1 y2 (HI.out.b.trans y3) (y5.same D _ HKD.out rfl) hS7 rfl rfl rfl
  case stop =>
    rintro D pre W hD hSp hIx hK
    obtain ⟨ys, x, c, e, y0, y1, y2, hrun, hbad⟩ := hIx.at_
    have y3 := hIx.b
    have hpar : parseC s = .error ys.length := by
      rw [parse_lns]
      rw [e, List.map_append] at hSp
      have := run_stop (x := gL x) hSp hrun (by rw [List.length_map]; exact hbad)
      rwa [List.length_map] at this
    gi_wp2
    exact parE_bad (k := k) HZ.out hs hpar (by omega) (by omega) y0 y1 y2 y3 hK rfl rfl rfl
theorem cparse_ok (s : ByteArray) (w : World) : Calls Tryz.prog 7 #[.string s] w (PaE s w) := by
  by_cases h : s.size ≤ 4096
  · exact parse_small s w h
  · exact parse_big s w (by omega)
end Go.Proofs.YtekobdmlgbffnaaGreatDoor
