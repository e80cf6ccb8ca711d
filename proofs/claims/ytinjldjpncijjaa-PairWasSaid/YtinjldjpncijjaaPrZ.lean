/- The program's own table of pairs: its memory; New, Was, Other, put, Join, Part: their contracts. -/
import Derived.Test.YtinjldjpncijjaaG6
namespace Go.Proofs.Ytinjldjpncijjaa
set_option linter.unusedVariables false
set_option maxRecDepth 100000
set_option linter.unusedSimpArgs false
open Go.RowKit Go.Maps

/-- How a pair in an entry reads. -/
def pRP : Value → Option (DataW Unit × List MemPlace)
  | .agg cs => match cs.toList with
    | [.int .i64 v, .int .i64 c] => some (.agg [.lit (.int .i64 v), .lit (.int .i64 c)], [])
    | _ => none
  | _ => none
def pmk (p : Pp) : Value := .agg #[.int .i64 p.v, .int .i64 p.c]
def pen (p : Pp) : DataW Unit := .agg [.lit (.int .i64 p.v), .lit (.int .i64 p.c)]
theorem pRP_all {v : Value} {y : DataW Unit × List MemPlace} (h : pRP v = some y) : ∃ p, v = pmk p ∧ y = (pen p, []) := by
  unfold pRP at h
  split at h
  · rename_i cs
    split at h
    · rename_i a b e
      injection h with h
      refine ⟨⟨a, b⟩, ?_, h.symm⟩
      unfold pmk
      congr 1
      apply Array.toList_inj.1
      rw [e]
    · cases h
  · cases h
theorem pen_inj {p q : Pp} (h : pen p = pen q) : p = q := by
  unfold pen at h
  injection h with h
  injection h with h1 h2
  injection h2 with h2 _
  injection h1 with h1
  injection h2 with h2
  injection h1 with _ h1
  injection h2 with _ h2
  cases p; cases q
  simp only at h1 h2
  rw [h1, h2]
theorem kinP : Kin 48 43 pRP pmk pen ⟨0, 0⟩ :=
  ⟨Try.underlying48, fun w => by kernel_rfl, fun x => rfl, fun v x ps h => by
    obtain ⟨p, rfl, e⟩ := pRP_all h
    injection e with e _
    rw [pen_inj e], fun v y h => by
    obtain ⟨p, rfl, _⟩ := pRP_all h
    exact ⟨p, rfl⟩⟩
def emk (_ : Unit) : Value := .agg #[]
def een (_ : Unit) : DataW Unit := .agg []
theorem kinE : Kin 49 54 (unitElem (H := Unit)) emk een () :=
  ⟨Try.underlying49, fun w => by kernel_rfl, fun x => unitElem_mk, fun v x ps h => (unitElem_inv h).1, fun v y h => ⟨(), (unitElem_inv h).1⟩⟩
abbrev MnP (u : World) (mb : Nat) (l : List (Int × Pp)) : Prop := Mn pRP pen u mb l
abbrev MnE (u : World) (mb : Nat) (l : List (Int × Unit)) : Prop := Mn (unitElem (H := Unit)) een u mb l
/-- Each pair twice: by its visitor, and by its caller. -/
def dblP (l : List Pp) : List (Int × Pp) := l.flatMap fun p => [(p.v, p), (p.c, p)]
def evP (ev : List Int) : List (Int × Unit) := ev.map fun x => (x, ())
theorem mem_dbl {l : List Pp} {k : Int} {p : Pp} : (k, p) ∈ dblP l ↔ p ∈ l ∧ p.has k = true := by
  unfold dblP
  rw [List.mem_flatMap]
  constructor
  · rintro ⟨q, hq, h⟩
    simp only [List.mem_cons, Prod.mk.injEq, List.not_mem_nil, or_false] at h
    rcases h with ⟨rfl, rfl⟩ | ⟨rfl, rfl⟩
    · exact ⟨hq, has_v _⟩
    · exact ⟨hq, has_c _⟩
  · rintro ⟨h1, h2⟩
    refine ⟨p, h1, ?_⟩
    have := has_iff.1 h2
    unfold Pp.ids at this
    simp only [List.mem_cons, List.not_mem_nil, or_false] at this
    rcases this with rfl | rfl <;> simp
theorem mem_evP {ev : List Int} {k : Int} : (k, ()) ∈ evP ev ↔ k ∈ ev := by
  unfold evP
  rw [List.mem_map]
  constructor
  · rintro ⟨x, hx, e⟩
    injection e with e
    rw [← e]; exact hx
  · intro h; exact ⟨k, h, rfl⟩
theorem dbl_ins (p : Pp) (l : List Pp) : ((p.c, p) :: (p.v, p) :: dblP l).Perm (dblP (insP p l)) := by
  refine (List.Perm.swap _ _ _).trans ?_
  exact (List.Perm.flatMap_right (fun p : Pp => [(p.v, p), (p.c, p)]) (ins_perm p l)).symm
theorem ev_app (ev : List Int) (v c : Int) : ((c, ()) :: (v, ()) :: evP ev).Perm (evP (ev ++ [v, c])) := by
  refine (List.Perm.swap _ _ _).trans ?_
  unfold evP
  rw [List.map_append]
  exact List.perm_append_comm (l₁ := [(v, ()), (c, ())])
/-- The pairs, one of them first. -/
theorem dbl_out {l : List Pp} (h : (idsL l).Nodup) {p : Pp} (hp : p ∈ l) {id : Int} (h1 : p.has id = true) : (dblP l).Perm ((p.v, p) :: (p.c, p) :: dblP (partL l id)) := by
  induction l with
  | nil => cases hp
  | cons a r ih =>
    have hn : (a.ids ++ idsL r).Nodup := h
    obtain ⟨_, n2, n3⟩ := List.nodup_append.1 hn
    rcases List.mem_cons.1 hp with rfl | hp
    · have e : partL (p :: r) id = r := by
        unfold partL
        rw [List.filter_cons, h1]
        simp only [Bool.not_true, Bool.false_eq_true, if_false]
        refine List.filter_eq_self.2 fun q hq => ?_
        cases hh : q.has id with
        | false => rfl
        | true => exact absurd rfl (n3 id (has_iff.1 h1) id (ids_iff.2 ⟨q, hq, hh⟩))
      rw [e]
      exact List.Perm.refl _
    · have ha : a.has id = false := by
        cases hh : a.has id with
        | false => rfl
        | true => exact absurd rfl (n3 id (has_iff.1 hh) id (ids_iff.2 ⟨p, hp, h1⟩))
      have e : partL (a :: r) id = a :: partL r id := by
        unfold partL
        rw [List.filter_cons, ha]
        rfl
      rw [e]
      show ([(a.v, a), (a.c, a)] ++ dblP r).Perm ((p.v, p) :: (p.c, p) :: ([(a.v, a), (a.c, a)] ++ dblP (partL r id)))
      refine ((ih n2 hp).append_left _).trans ?_
      exact List.perm_append_comm_assoc (l₁ := [(a.v, a), (a.c, a)]) (l₂ := [(p.v, p), (p.c, p)]) (l₃ := dblP (partL r id))
theorem dbl_out2 {l : List Pp} (h : (idsL l).Nodup) {p : Pp} (hp : p ∈ l) {id x : Int} (h1 : p.has id = true) (hx : (if p.v = id then p.c else p.v) = x) : (dblP l).Perm ((id, p) :: (x, p) :: dblP (partL l id)) := by
  have h2 := dbl_out h hp h1
  by_cases e : p.v = id
  · rw [if_pos e] at hx
    rw [← e, ← hx]
    rw [← e] at h2
    exact h2
  · rw [if_neg e] at hx
    have hc : p.c = id := by
      have := has_iff.1 h1
      unfold Pp.ids at this
      simp only [List.mem_cons, List.not_mem_nil, or_false] at this
      rcases this with e1 | e1
      · exact absurd e1.symm e
      · exact e1.symm
    rw [← hc, ← hx]
    rw [← hc] at h2
    exact h2.trans (List.Perm.swap _ _ _)

/-- At tb lies the program's table, in the blocks H. -/
structure Zp (W u : World) (H : List Nat) (tb : Nat) (t : Tp) : Prop where
  ex : ∃ mp me, Bk u tb 51 #[.map (some mp), .map (some me)] ∧ MnP u mp (dblP t.l) ∧ MnE u me (evP t.ev) ∧ mp ≠ me ∧ mp ∈ H ∧ me ∈ H
  tb : tb ∈ H
  l : Below W.heap.size W u
  lo : ∀ y ∈ H, W.heap.size ≤ y
  hi : ∀ y ∈ H, y < u.heap.size
/-- A number that is one: it was ever in a pair, or it is of its kind. -/
abbrev Wk (t : Tp) (id : Int) : Prop := id ∈ t.ev ∨ WfN id
section
variable {W u u' : World} {H H' : List Nat} {tb : Nat} {t : Tp}
theorem Zp.ke {L : List Nat} (h : Zp W u H tb t) (k : Ke L u u') (hL : ∀ y ∈ H, y ∉ L) (hb : Below W.heap.size W u') : Zp W u' H tb t := by
  obtain ⟨mp, me, h1, h2, h3, h4, h5, h6⟩ := h.ex
  exact ⟨⟨mp, me, h1.ke k (hL _ h.tb), h2.ke k (hL _ h5), h3.ke k (hL _ h6), h4, h5, h6⟩, h.tb, hb, h.lo, fun y hy => Nat.lt_of_lt_of_le (h.hi y hy) k.size⟩
theorem Zp.on (h : Zp W u H tb t) (hb : Below u.heap.size u u') : Zp W u' H tb t := h.ke (Ke.of hb) (fun _ _ hx => by cases hx) (h.l.trans (hb.mono h.l.size))
theorem Zp.wk (h : Zp W u H tb t) {id : Int} (hw : Wk t id) : WfN id := by
  rcases hw with h1 | h1
  · obtain ⟨mp, me, _, _, h3, _⟩ := h.ex
    exact h3.wf _ (mem_evP.2 h1)
  · exact h1
set_option maxRecDepth 100000 in
set_option maxHeartbeats 1000000 in
theorem z_pnew (h : Below W.heap.size W u) : Calls Try.prog 10 #[] u fun e u' => ∃ H tb, e = .returned (.pointer (some ⟨tb, 0, none⟩)) ∧ Zp W u' H tb ⟨[], []⟩ ∧ Below u.heap.size u u' ∧ ∀ y ∈ H, u.heap.size ≤ y := by
  have HB := Lib.hid h
  have hs := h.size
  have hP := Lib.hid (Mn.made (R := pRP) (en := pen) u)
  have hE := Lib.hid (Mn.made (R := unitElem (H := Unit)) (en := een) (u.alloc (.map #[] 0)))
  have hmm := @run_makeMap Try.prog
  clear h
  go_enter Try.func10, Try.ntmps10
  go_wp2
  go_ret
  have k1 : Below u.heap.size u (u.alloc (.map #[] 0)) := (Below.refl u.heap.size u).alloc (Nat.le_refl _) _
  have k2 : Below u.heap.size u ((u.alloc (.map #[] 0)).alloc (.map #[] 0)) := k1.alloc (by rw [World.size_alloc]; omega) _
  have k3 := k2.alloc (by rw [World.size_alloc, World.size_alloc]; omega) (.cells #[.map (some u.heap.size), .map (some (u.heap.size + 1))] 51)
  have e1 : (u.alloc (.map #[] 0)).heap.size = u.heap.size + 1 := World.size_alloc _ _
  have e2 : ((u.alloc (.map #[] 0)).alloc (.map #[] 0)).heap.size = u.heap.size + 2 := by rw [World.size_alloc, e1]
  have hE2 := hE.out
  rw [e1] at hE2
  refine ⟨[u.heap.size + 2, u.heap.size, u.heap.size + 1], u.heap.size + 2, rfl, ⟨⟨u.heap.size, u.heap.size + 1, ?_, ?_, ?_, by omega, by simp, by simp⟩, by simp, HB.out.trans (k3.mono hs), ?_, ?_⟩, k3, ?_⟩
  · have := Bk.new ((u.alloc (.map #[] 0)).alloc (.map #[] 0)) 51 #[.map (some u.heap.size), .map (some (u.heap.size + 1))]
    rw [e2] at this
    exact this
  · exact hP.out.ke (((Ke.refl [] _).alloc _).alloc _) (by simp)
  · exact hE2.ke ((Ke.refl [] _).alloc _) (by simp)
  · intro y hy
    simp only [List.mem_cons, List.not_mem_nil, or_false] at hy
    rcases hy with rfl | rfl | rfl <;> omega
  · intro y hy
    rw [World.size_alloc, e2]
    simp only [List.mem_cons, List.not_mem_nil, or_false] at hy
    rcases hy with rfl | rfl | rfl <;> omega
  · intro y hy
    simp only [List.mem_cons, List.not_mem_nil, or_false] at hy
    rcases hy with rfl | rfl | rfl <;> omega
set_option maxRecDepth 100000 in
set_option maxHeartbeats 1000000 in
theorem z_was (h : Zp W u H tb t) (hg : Gp t) (hf : t.l.length ≤ 1000 ∧ t.ev.length ≤ 2000) (id : Int) (r : Bool) (hE : decide (id ∈ t.ev) = r) (hw : Wk t id := by first | exact Or.inr (by decide) | exact Or.inr (Hid.out (by assumption)) | exact Or.inl (Hid.out (by assumption))) :
    Calls Try.prog 18 #[.pointer (some ⟨tb, 0, none⟩), .int .i64 id] u fun e u' => e = .returned (.bool r) ∧ Below u.heap.size u u' := by
  have hwf := h.wk hw
  obtain ⟨mp, me, h1, h2, h3, h4, h5, h6⟩ := h.ex
  have c1 : u.cell? ⟨tb, 1, none⟩ = some (.map (some me)) := h1.cell 1
  have hl : (Instr.lookup 49 (.map (some me)) (.int .i64 id) true).run Try.prog u = .ok (.tuple #[.agg #[], .bool r]) u := by
    cases r with
    | true => exact h3.hit kinE (mem_evP.2 (by simpa using hE))
    | false => exact h3.miss kinE hwf (fun x hx e => by
        have : id ∉ t.ev := by simpa using hE
        exact this (mem_evP.1 (by rw [← e]; exact hx)))
  clear h hg hf hE hw hwf h1 h2 h3 h4 h5 h6
  go_enter Try.func18, Try.ntmps18
  go_wp2_with fail
  go_ret
  exact ⟨rfl, (Below.refl u.heap.size u).alloc (Nat.le_refl _) _⟩
set_option maxRecDepth 100000 in
set_option maxHeartbeats 1000000 in
theorem z_other (h : Zp W u H tb t) (hg : Gp t) (hf : t.l.length ≤ 1000 ∧ t.ev.length ≤ 2000) (id : Int) (x : Int) (b : Bool) (hE : othP t.l id = (x, b)) (hw : Wk t id := by first | exact Or.inr (by decide) | exact Or.inr (Hid.out (by assumption)) | exact Or.inl (Hid.out (by assumption))) :
    Calls Try.prog 16 #[.pointer (some ⟨tb, 0, none⟩), .int .i64 id] u fun e u' => e = .returned (.tuple #[.int .i64 x, .bool b]) ∧ Below u.heap.size u u' := by
  have hwf := h.wk hw
  obtain ⟨mp, me, h1, h2, h3, h4, h5, h6⟩ := h.ex
  have c0 : u.cell? ⟨tb, 0, none⟩ = some (.map (some mp)) := h1.cell 0
  by_cases hi : id ∈ idsL t.l
  · obtain ⟨p, hp, hh⟩ := ids_iff.1 hi
    obtain ⟨pv, pc⟩ := p
    have hl : (Instr.lookup 48 (.map (some mp)) (.int .i64 id) true).run Try.prog u = .ok (.tuple #[.agg #[.int .i64 pv, .int .i64 pc], .bool true]) u := h2.hit kinP (mem_dbl.2 ⟨hp, hh⟩)
    rw [oth_of hg.nd hp hh] at hE
    injection hE with e1 e2
    subst e2
    simp only at e1
    have HE := Lib.hid e1
    clear h hg hf e1 hw hwf h1 h2 h3 h4 h5 h6 hi hp hh
    by_cases hq : pv = id
    · have hq2 : (pv == id) = true := by simp [hq]
      have HE2 := Lib.hid (show pc = x by rw [← HE.out, if_pos hq])
      clear hq
      go_enter Try.func16, Try.ntmps16
      go_wp2_with fail
      go_ret2
      exact ⟨by rw [HE2.out]; rfl, (Below.refl u.heap.size u).alloc (Nat.le_refl _) _⟩
    · have hq2 : (pv == id) = false := by simp [hq]
      have HE2 := Lib.hid (show pv = x by rw [← HE.out, if_neg hq])
      clear hq
      go_enter Try.func16, Try.ntmps16
      go_wp2_with fail
      go_ret2
      exact ⟨by rw [HE2.out]; rfl, (Below.refl u.heap.size u).alloc (Nat.le_refl _) _⟩
  · have hl : (Instr.lookup 48 (.map (some mp)) (.int .i64 id) true).run Try.prog u = .ok (.tuple #[.agg #[.int .i64 0, .int .i64 0], .bool false]) u := h2.miss kinP hwf (fun y hy e => hi (by
      obtain ⟨k, p⟩ := y
      obtain ⟨h7, h8⟩ := mem_dbl.1 hy
      simp only at e
      rw [← e]
      exact ids_iff.2 ⟨p, h7, h8⟩))
    have hx : othP t.l id = (0, false) := by
      have h7 := oth_none.2 hi
      unfold othP at h7 ⊢
      split at h7
      · rfl
      · cases h7
    rw [hx] at hE
    injection hE with e1 e2
    subst e1; subst e2
    clear h hg hf hw hwf h1 h2 h3 h4 h5 h6 hi hx
    go_enter Try.func16, Try.ntmps16
    go_wp2_with fail
    go_ret2
    exact ⟨rfl, (Below.refl u.heap.size u).alloc (Nat.le_refl _) _⟩
set_option maxRecDepth 100000 in
set_option maxHeartbeats 2000000 in
/-- put: one of both is in a pair. -/
theorem put_okP {mp me : Nat} {lp : List (Int × Pp)} {le : List (Int × Unit)} (h1 : Bk u tb 51 #[.map (some mp), .map (some me)]) (h2 : MnP u mp lp) (h3 : MnE u me le) (h4 : mp ≠ me) (hl : lp.length ≤ 10000) (hm : le.length ≤ 10000)
    (k : Int) (p : Pp) (hk : WfN k) (hp : ∀ x ∈ lp, x.1 ≠ k) (he : ∀ x ∈ le, x.1 ≠ k) :
    Calls Try.prog 23 #[.pointer (some ⟨tb, 0, none⟩), .int .i64 k, .agg #[.int .i64 p.v, .int .i64 p.c]] u fun e u' => e = .returned (.tuple #[]) ∧ Bk u' tb 51 #[.map (some mp), .map (some me)] ∧ MnP u' mp ((k, p) :: lp) ∧ MnE u' me ((k, ()) :: le) ∧ Ke [mp, me] u u' := by
  obtain ⟨pv, pc⟩ := p
  have H1 := Lib.hid (h1.alloc (.cells #[.int .i64 pv, .int .i64 pc] 43))
  have c0 : (u.alloc (.cells #[.int .i64 pv, .int .i64 pc] 43)).cell? ⟨tb, 0, none⟩ = some (.map (some mp)) := H1.out.cell 0
  have HK0 := Lib.hid (show Ke [] u (u.alloc (.cells #[.int .i64 pv, .int .i64 pc] 43)) from (Ke.refl [] u).alloc _)
  have HN := Lib.hid (Bk.new u 43 #[.int .i64 pv, .int .i64 pc])
  have hne1 : tb ≠ mp := bk_mapN h1 h2.block
  have hne2 : tb ≠ me := bk_mapN h1 h3.block
  obtain ⟨w4, hst, hm4, hk4⟩ := ((h2.ke HK0.out (by simp)).ke (L := []) (Ke.refl _ _).drew (by simp)).store kinP (by omega) k ⟨pv, pc⟩ hk hp
  have HK4 := Lib.hid (show Ke [mp] u w4 from ((HK0.out.more (by simp)).drew).trans hk4)
  have HM4 := Lib.hid hm4
  have HB4 := Lib.hid (h1.ke HK4.out (by simpa using hne1))
  have c1 : w4.cell? ⟨tb, 1, none⟩ = some (.map (some me)) := HB4.out.cell 1
  obtain ⟨w5, hst5, hm5, hk5⟩ := (h3.ke HK4.out (by simpa using h4.symm)).store kinE (by omega) k () hk he
  have HK5 := Lib.hid (show Ke [mp, me] u w5 from (HK4.out.more (by simp)).trans (hk5.more (by simp)))
  have HM5 := Lib.hid (And.intro (hm4.ke hk5 (by simpa using h4)) hm5)
  have HB5 := Lib.hid (HB4.out.ke hk5 (by simpa using hne2))
  have b0 : (u.alloc (.cells #[.int .i64 pv, .int .i64 pc] 43)).cell? ⟨u.heap.size, 0, none⟩ = some (.int .i64 pv) := HN.out.cell 0
  have b1 : (u.alloc (.cells #[.int .i64 pv, .int .i64 pc] 43)).cell? ⟨u.heap.size, 1, none⟩ = some (.int .i64 pc) := HN.out.cell 1
  change (Instr.mapUpdate 48 (.map (some mp)) (.int .i64 k) (.agg #[.int .i64 pv, .int .i64 pc])).run Try.prog _ = _ at hst
  change (Instr.mapUpdate 49 (.map (some me)) (.int .i64 k) (.agg #[])).run Try.prog _ = _ at hst5
  clear h1 h2 h3 h4 hl hm hk hp he hne1 hne2 hm4 hk4 hm5 hk5
  go_enter Try.func23, Try.ntmps23
  go_upto_region 1 with fail
  go_region
  go_wp2_with fail
  go_end0
  exact ⟨rfl, HB5.out, HM5.out.1, HM5.out.2, HK5.out⟩
end
end Go.Proofs.Ytinjldjpncijjaa
