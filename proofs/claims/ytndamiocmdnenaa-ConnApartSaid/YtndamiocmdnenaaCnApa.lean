/- Two of the program's tables side by side; what is done of others changes nothing of one. (Written by gen_cnapart.py.) -/
import Derived.Test.YtndamiocmdnenaaCnNev
namespace Go.Proofs.Ytndamiocmdnenaa
set_option linter.unusedVariables false
set_option maxRecDepth 100000
set_option linter.unusedSimpArgs false
open Go.RowKit

structure Vc (W u : World) (G : List Nat) (tb : Nat) (t : Tc) (K : List Nat) (ub : Nat) (q : Tc) : Prop where
  z : Zc W u G tb t
  y : Zc W u K ub q
  ne : ∀ y ∈ G, y ∉ K
section
variable {W u u' : World} {G G' K K' : List Nat} {tb ub : Nat} {t q t' q' : Tc}
theorem Vc.left (h : Vc W u G tb t K ub q) (s : Sp u u' G G') (k : Zc W u' G' tb t') : Vc W u' G' tb t' K ub q :=
  ⟨k, h.y.ke s.k (fun y hy hG => h.ne y hG hy) k.l, fun y hy hH => by
    rcases s.g y hy with e | e
    · exact h.ne y e hH
    · have := h.y.hi y hH; omega⟩
theorem Vc.right (h : Vc W u G tb t K ub q) (s : Sp u u' K K') (k : Zc W u' K' ub q') : Vc W u' G tb t K' ub q' :=
  ⟨h.z.ke s.k (fun y hy hH => h.ne y hy hH) k.l, k, fun y hy hH => by
    rcases s.g y hH with e | e
    · exact h.ne y hy e
    · have := h.z.hi y hy; omega⟩
theorem Vc.on (h : Vc W u G tb t K ub q) (hb : Below u.heap.size u u') : Vc W u' G tb t K ub q := ⟨h.z.on hb, h.y.on hb, h.ne⟩
theorem Vc.hi (h : Vc W u G tb t K ub q) : ∀ y ∈ G ++ K, y < u.heap.size := fun y hy => by
  rcases List.mem_append.1 hy with e | e
  · exact h.z.hi y e
  · exact h.y.hi y e
theorem Vc.l (h : Vc W u G tb t K ub q) : Below W.heap.size W u := h.z.l
end
theorem ad_fe (c : Cn) (B : List UInt8) : (fe1 c B).2.ad = c.ad := by unfold fe1; split <;> rfl
theorem ad_ne (c : Cn) : (ne1 c).2.ad = c.ad := by unfold ne1; split; rfl; split <;> rfl
theorem ad_sa (c : Cn) (B : List UInt8) : (sa1 c B).2.ad = c.ad := by unfold sa1; split <;> rfl
theorem ad_bu (c : Cn) (n : Int) : (bu1 c n).2.ad = c.ad := by unfold bu1; split <;> rfl
theorem ad_ha (c : Cn) : (ha1 c).2.ad = c.ad := by unfold ha1; split <;> rfl
theorem f_up {t : Tc} {i : Int} {c d : Cn} (h : t.f i = some c) : (t.up i d).f i = some d := fn_up_same h
/-- Of one connection two tables know the same; its address is 7. -/
structure Sa (i : Nat) (t q : Tc) (id : Int) : Prop where
  g : Gc t
  k : Gc q
  la : t.la ≤ 100 + i
  lb : q.la ≤ 100 + i
  s : ∃ c, t.f id = some c ∧ q.f id = some c ∧ c.ad = 7
theorem Sa.more {i : Nat} {t q : Tc} {id : Int} (h : Sa i t q id) : Sa (i + 1) t q id := ⟨h.g, h.k, by have := h.la; omega, by have := h.lb; omega, h.s⟩
/-- A call of that one, of both. -/
theorem do_hit {t : Tc} (hg : Gc t) (o : OpC) {c : Cn} (h : t.f o.id = some c) (h0 : o.what ≠ 0) (h1 : o.what ≠ 1) : (doC t o).f o.id = some (if o.what = 2 then (fe1 c o.l).2 else if o.what = 3 then (fe1 c o.l).2 else if o.what = 4 then (ne1 c).2 else if o.what = 5 then (re1 c o.x).2 else if o.what = 6 then (sa1 c o.l).2 else if o.what = 7 then (sa1 c o.l).2 else if o.what = 8 then (bu1 c o.x).2 else if o.what = 9 then (fl1 c).2 else (ha1 c).2) := by
  unfold doC
  rw [if_neg h0, if_neg h1]
  repeat' split
  · rw [fe_hit hg h]; exact f_up h
  · rw [fe_hit hg h]; exact f_up h
  · rw [ne_hit hg h]; exact f_up h
  · rw [re_hit h]; exact f_up h
  · rw [sa_hit hg h]; exact f_up h
  · rw [sa_hit hg h]; exact f_up h
  · rw [bu_hit hg h]; exact f_up h
  · rw [fl_hit h]; exact f_up h
  · rw [ha_hit hg h]; exact f_up h
theorem ad_do (o : OpC) (c : Cn) : (if o.what = 2 then (fe1 c o.l).2 else if o.what = 3 then (fe1 c o.l).2 else if o.what = 4 then (ne1 c).2 else if o.what = 5 then (re1 c o.x).2 else if o.what = 6 then (sa1 c o.l).2 else if o.what = 7 then (sa1 c o.l).2 else if o.what = 8 then (bu1 c o.x).2 else if o.what = 9 then (fl1 c).2 else (ha1 c).2).ad = c.ad := by
  repeat' split
  · exact ad_fe _ _
  · exact ad_fe _ _
  · exact ad_ne _
  · rfl
  · exact ad_sa _ _
  · exact ad_sa _ _
  · exact ad_bu _ _
  · rfl
  · exact ad_ha _
theorem Sa.both {i : Nat} {t q : Tc} {id : Int} (h : Sa i t q id) (o : OpC) (e : o.id = id) (h0 : o.what ≠ 0) (h1 : o.what ≠ 1) : Sa (i + 1) (doC t o) (doC q o) id := by
  obtain ⟨c, e1, e2, e3⟩ := h.s
  subst e
  exact ⟨gc_do h.g o, gc_do h.k o, by have := la_do t o; have := h.la; omega, by have := la_do q o; have := h.lb; omega, _, do_hit h.g o e1 h0 h1, do_hit h.k o e2 h0 h1, (ad_do o c).trans e3⟩
theorem far_up {t : Tc} {i j : Int} {c : Cn} (h : j ≠ i) : (t.up i c).f j = t.f j := fn_up_far h
theorem far_feed {t : Tc} {i j : Int} (h : j ≠ i) (B : List UInt8) : (feC t i B).2.f j = t.f j := by unfold feC; split; rfl; split; rfl; exact far_up h
theorem far_next {t : Tc} {i j : Int} (h : j ≠ i) : (neC t i).2.f j = t.f j := by unfold neC; split; rfl; split; rfl; split; rfl; exact far_up h
theorem far_rest {t : Tc} {i j : Int} (h : j ≠ i) (n : Int) : (reC t i n).2.f j = t.f j := by unfold reC; split; rfl; exact far_up h
theorem far_say {t : Tc} {i j : Int} (h : j ≠ i) (B : List UInt8) : (saC t i B).2.f j = t.f j := by unfold saC; split; rfl; split; rfl; exact far_up h
theorem far_bud {t : Tc} {i j : Int} (h : j ≠ i) (n : Int) : (buC t i n).2.f j = t.f j := by unfold buC; split; rfl; split; rfl; exact far_up h
theorem far_flush {t : Tc} {i j : Int} (h : j ≠ i) : (flC t i).2.f j = t.f j := by unfold flC; split; rfl; exact far_up h
theorem far_half {t : Tc} {i j : Int} (h : j ≠ i) : (haC t i).2.f j = t.f j := by unfold haC; split; rfl; split; rfl; exact far_up h
theorem far_close {t : Tc} {i j : Int} (h : j ≠ i) : (clC t i).2.f j = t.f j := by unfold clC; split; exact fn_rm_far h; rfl
theorem open_stays {t : Tc} {j : Int} {c : Cn} (h : t.f j = some c) (a : Int) : (opC t a).2.f j = some c := by
  unfold opC
  split
  · exact h
  · show fnC (t.l ++ _) j = some c
    rw [fn_app, show fnC t.l j = some c from h]
    rfl
theorem Sa.open_ {i : Nat} {t q : Tc} {id : Int} (h : Sa i t q id) (a : Int) : Sa (i + 1) (opC t a).2 q id := by
  obtain ⟨c, e1, e2, e3⟩ := h.s
  exact ⟨gc_open h.g a, h.k, by have := la_open (t := t) (a := a); have := h.la; omega, by have := h.lb; omega, c, open_stays e1 a, e2, e3⟩
theorem Sa.far {i : Nat} {t q : Tc} {id : Int} (h : Sa i t q id) (o : OpC) (e : o.id ≠ id) (h0 : o.what ≠ 0) : Sa (i + 1) (doC t o) q id := by
  obtain ⟨c, e1, e2, e3⟩ := h.s
  have e := Ne.symm e
  refine ⟨gc_do h.g o, h.k, by have := la_do t o; have := h.la; omega, by have := h.lb; omega, c, Eq.trans ?_ e1, e2, e3⟩
  unfold doC
  rw [if_neg h0]
  repeat' split
  · exact far_close e
  · exact far_feed e _
  · exact far_feed e _
  · exact far_next e
  · exact far_rest e _
  · exact far_say e _
  · exact far_say e _
  · exact far_bud e _
  · exact far_flush e
  · exact far_half e
theorem Sa.flush {i : Nat} {t q : Tc} {id : Int} (h : Sa i t q id) : ∃ l t2 q2, flC t id = (l, t2) ∧ flC q id = (l, q2) ∧ Sa (i + 1) t2 q2 id := by
  obtain ⟨c, e1, e2, e3⟩ := h.s
  refine ⟨_, _, _, fl_hit e1, fl_hit e2, ?_⟩
  have g1 := gc_flush h.g id
  have g2 := gc_flush h.k id
  have l1 := la_flush (t := t) (i := id)
  have l2 := la_flush (t := q) (i := id)
  rw [fl_hit e1] at g1 l1
  rw [fl_hit e2] at g2 l2
  exact ⟨g1, g2, by have := h.la; dsimp only at l1 ⊢; omega, by have := h.lb; dsimp only at l2 ⊢; omega, _, f_up e1, f_up e2, e3⟩
theorem Sa.rest {i : Nat} {t q : Tc} {id : Int} (h : Sa i t q id) (x : Int) : ∃ l t2 q2, reC t id x = (l, t2) ∧ reC q id x = (l, q2) ∧ Sa (i + 1) t2 q2 id := by
  obtain ⟨c, e1, e2, e3⟩ := h.s
  refine ⟨_, _, _, re_hit e1 x, re_hit e2 x, ?_⟩
  have g1 := gc_rest h.g id x
  have g2 := gc_rest h.k id x
  have l1 := la_rest (t := t) (i := id) (n := x)
  have l2 := la_rest (t := q) (i := id) (n := x)
  rw [re_hit e1] at g1 l1
  rw [re_hit e2] at g2 l2
  exact ⟨g1, g2, by have := h.la; dsimp only at l1 ⊢; omega, by have := h.lb; dsimp only at l2 ⊢; omega, _, f_up e1, f_up e2, e3⟩
theorem Sa.tells {i : Nat} {t q : Tc} {id : Int} (h : Sa i t q id) : ∃ (a w r : Nat) (e : Bool), (caC t id = a ∧ caC q id = a) ∧ (waC t id = w ∧ waC q id = w) ∧ (crC t id = r ∧ crC q id = r) ∧ (enC t id = e ∧ enC q id = e) := by
  obtain ⟨c, e1, e2, e3⟩ := h.s
  refine ⟨c.q.length, c.w.length, c.cr, c.en, ?_, ?_, ?_, ?_⟩
  · unfold caC; rw [e1, e2]; exact ⟨rfl, rfl⟩
  · unfold waC; rw [e1, e2]; exact ⟨rfl, rfl⟩
  · unfold crC; rw [e1, e2]; exact ⟨rfl, rfl⟩
  · unfold enC; rw [e1, e2]; exact ⟨rfl, rfl⟩
theorem Sa.last {i : Nat} {t q : Tc} {id : Int} (h : Sa i t q id) : hsC t id = true ∧ adC t id = 7 := by
  obtain ⟨c, e1, e2, e3⟩ := h.s
  exact ⟨by unfold hsC; rw [e1]; rfl, by unfold adC; rw [e1]; exact e3⟩
/-- Many were opened, and none else. -/
structure On (t : Tc) (j : Nat) : Prop where
  g : Gc t
  n : t.l.length = j
  la : t.la = j
theorem on_new : On tc0 0 := ⟨gc_new, rfl, rfl⟩
theorem On.more {t : Tc} {j : Nat} (h : On t j) (hj : j < 64) (a : Int) : ∃ t2, opC t a = ((((j + 1 : Nat) : Int), 0), t2) ∧ On t2 (j + 1) ∧ t2.f ((j + 1 : Nat) : Int) = some (cn0 a) := by
  have hl : ¬ 64 ≤ t.l.length := by rw [h.n]; omega
  refine ⟨_, (open_more a hl).trans (by rw [h.la]), ⟨?_, ?_, rfl⟩, ?_⟩
  · have := gc_open2 h.g a hl; rw [h.la] at this; exact this
  · show (t.l ++ [_]).length = j + 1; rw [List.length_append, h.n]; rfl
  · show fnC (t.l ++ [_]) _ = _
    rw [fn_app, fn_none.2 (fun p hp e => by have := (h.g.pos p.1 (List.mem_map.2 ⟨p, hp, rfl⟩)).2; rw [h.la] at this; omega)]
    show fnC [(((j + 1 : Nat) : Int), cn0 a)] _ = _
    rw [fn_cons, if_pos rfl]
end Go.Proofs.Ytndamiocmdnenaa
