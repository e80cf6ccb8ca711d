/- CdR2, Fr3, FrR1: texts of this seat, one behind the other. -/
import Derived.Test.YtndamiocmdnenaaGreatG11
import Derived.Test.YtndamiocmdnenaaGreatG7
import Derived.Test.YtndamiocmdnenaaGreatG5
/- The document's own table of connections: one connection has turned. (Written by gen_cdr2.py.) -/
namespace Go.Proofs.YtndamiocmdnenaaGreat
set_option linter.unusedVariables false
set_option maxRecDepth 100000
set_option linter.unusedSimpArgs false
open Go.RowKit

theorem cdl_app (L M : List Cdr) : cdl (L ++ M) = cdl L ++ cdl M := List.map_append
theorem cdl_cons (d : Cdr) (L : List Cdr) : cdl (d :: L) = (d.id, d.c) :: cdl L := rfl
theorem up_mid {T R : List Cdr} {d d' : Cdr} {t : Tc} (hg : Gc t) (e : cdl (T ++ d :: R) = t.l) (hd : d'.id = d.id) : cdl (T ++ d' :: R) = upC t.l d.id d'.c := by
  have hu := hg.up
  rw [← e, cdl_app, cdl_cons, List.map_append, List.map_cons, List.pairwise_append, List.pairwise_cons] at hu
  obtain ⟨_, ⟨h2, _⟩, h3⟩ := hu
  rw [← e, cdl_app, cdl_cons, cdl_app, cdl_cons]
  show _ = (cdl T ++ (d.id, d.c) :: cdl R).map _
  have e1 : upC (cdl T) d.id d'.c = cdl T := up_none (fn_none.2 (fun p hp he => by
    have := h3 p.1 (List.mem_map.2 ⟨p, hp, rfl⟩) d.id List.mem_cons_self
    omega))
  have e2 : upC (cdl R) d.id d'.c = cdl R := up_none (fn_none.2 (fun p hp he => by
    have := h2 p.1 (List.mem_map.2 ⟨p, hp, rfl⟩)
    omega))
  unfold upC at e1 e2
  rw [List.map_append, List.map_cons, e1, e2, if_pos rfl, hd]
theorem nd_parts {P Q : List Nat} {x y : Nat} (h : (P ++ x :: y :: Q).Nodup) : x ∉ P ∧ y ∉ P ∧ x ≠ y ∧ x ∉ Q ∧ y ∉ Q := by
  obtain ⟨_, h2, h3⟩ := List.nodup_append.1 h
  rw [List.nodup_cons, List.nodup_cons] at h2
  obtain ⟨h4, h5, _⟩ := h2
  exact ⟨fun hx => h3 x hx x List.mem_cons_self rfl, fun hy => h3 y hy y (List.mem_cons_of_mem _ List.mem_cons_self) rfl, fun e => h4 (e ▸ List.mem_cons_self), fun hx => h4 (List.mem_cons_of_mem _ hx), h5⟩
section
variable {W u u' : World} {H H' : List Nat} {rb : Nat} {t t' : Tc} {A : Option Addr} {cp : Nat} {L T R : List Cdr} {d d' : Cdr}
theorem Cdx.F (h : Cdx W u H rb t A cp L) : ∀ g ∈ rb :: rowB A, g ∈ H := fun g hg => by
  rcases List.mem_cons.1 hg with e | e
  · rw [e]; exact h.rb
  · exact (h.ob g e).1
theorem fl_same {f : Cdr → Array Value} {d d' : Cdr} (h : f d' = f d) (T R : List Cdr) : fl f (T ++ d' :: R) = fl f (T ++ d :: R) := by
  have e1 : T ++ d' :: R = (T ++ [d']) ++ R := by simp
  have e2 : T ++ d :: R = (T ++ [d]) ++ R := by simp
  rw [e1, e2, fl_app, fl_app f (T ++ [d]), fl_app, fl_app f T [d]]
  simp [fl, h]
/-- The ring X of one row has turned. -/
theorem Cdx.ringX (h : Cdx W u H rb t A cp (T ++ d :: R)) (hg : Gc t) {q' : List UInt8} {A4 : Option Addr} {c4 : Nat} (k : Ke [d.x] u u') (r : Rs u' d.x 512 q' A4 c4) (hA : ∀ a, A4 = some a → u.heap.size ≤ a.block ∧ a.block < u'.heap.size) :
    Cdx W u' (H ++ blkA A4) rb (t.up d.id { d.c with q := q' }) A cp (T ++ { d with c := { d.c with q := q' } } :: R) ∧ Sp u u' H (H ++ blkA A4) := by
  have hrd := h.rg d (by simp)
  have hnd := h.nd
  rw [rbs_app, rbs_cons] at hnd
  obtain ⟨n1, n2, n3, n4, n5⟩ := nd_parts hnd
  have kH : Ke H u u' := k.more (fun y hy => by rw [List.mem_singleton.1 hy]; exact hrd.1.sH)
  have hs : Sp u u' H (H ++ blkA A4) := ⟨kH, fun y hy => by
    rcases List.mem_append.1 hy with e | e
    · exact .inl e
    · obtain ⟨a, ha, e⟩ := mem_blkA.1 e
      exact .inr (by rw [← e]; exact (hA a ha).1)⟩
  have hl : ∀ y ∈ H, y ∈ H ++ blkA A4 := fun y hy => List.mem_append_left _ hy
  have hoff : ∀ {s m : Nat} {q : List UInt8}, Rqd u H (rb :: rowB A) s m q → s ≠ d.x → Rqd u' (H ++ blkA A4) (rb :: rowB A) s m q := fun hr hne => (hr.off hrd.1 hne k).mono hl (fun y hy => .inl hy)
  have hin : ∀ e : Cdr, e ∈ T ++ d :: R → e.x ≠ d.x → e.y ≠ d.x → Rqd u' (H ++ blkA A4) (rb :: rowB A) e.x 512 e.c.q ∧ Rqd u' (H ++ blkA A4) (rb :: rowB A) e.y 1024 e.c.w := fun e he e1 e2 => ⟨hoff (h.rg e he).1 e1, hoff (h.rg e he).2 e2⟩
  refine ⟨⟨up_mid hg h.e rfl, ?_, ?_, fun g hg2 => ⟨hl g (h.ob g hg2).1, (h.ob g hg2).2⟩, fun e he => ?_, ?_, hl _ h.rb, h.l.trans (kH.below h.l.size h.lo), fun y hy => ?_, fun y hy => ?_⟩, hs⟩
  · rw [show (T ++ { d with c := { d.c with q := q' } } :: R).length = (T ++ d :: R).length by simp]
    exact h.bk.ke k (fun hx => hrd.1.sF (by rw [← List.mem_singleton.1 hx]; exact List.mem_cons_self))
  · have ho := h.ow.keR k (fun g hg2 hx => hrd.1.sF (by rw [← List.mem_singleton.1 hx]; exact List.mem_cons_of_mem _ (rowB_mem.2 hg2)))
    unfold Ow at ho ⊢
    rw [show (T ++ { d with c := { d.c with q := q' } } :: R).length = (T ++ d :: R).length by simp, fl_same (d := d) (show cdc { d with c := { d.c with q := q' } } = cdc d from rfl)]
    exact ho
  · rcases List.mem_append.1 he with e1 | e1
    · exact hin e (List.mem_append_left _ e1) (fun ex => n1 (ex ▸ (mem_rbs e1).1)) (fun ex => n1 (ex ▸ (mem_rbs e1).2))
    · rcases List.mem_cons.1 e1 with e1 | e1
      · subst e1
        have hnew : Rqd u' (H ++ blkA A4) (rb :: rowB A) d.x 512 q' := ⟨⟨A4, c4, r, fun a ha => ⟨List.mem_append_right _ (mem_blkA.2 ⟨a, ha, rfl⟩), fun hx => by have h1 := h.hi _ (h.F _ hx); have h2 := (hA a ha).1; omega⟩⟩, hl _ hrd.1.sH, hrd.1.sF⟩
        exact ⟨hnew, hoff hrd.2 (fun e => n3 e.symm)⟩
      · exact hin e (List.mem_append_right _ (List.mem_cons_of_mem _ e1)) (fun ex => n4 (ex ▸ (mem_rbs e1).1)) (fun ex => n4 (ex ▸ (mem_rbs e1).2))
  · have := h.nd
    rw [rbs_app, rbs_cons] at this ⊢
    exact this
  · rcases hs.g y hy with e | e
    · exact h.lo y e
    · exact Nat.le_trans h.l.size e
  · rcases List.mem_append.1 hy with e | e
    · exact Nat.lt_of_lt_of_le (h.hi y e) kH.size
    · obtain ⟨a, ha, e⟩ := mem_blkA.1 e
      rw [← e]; exact (hA a ha).2
/-- The ring Y of one row has turned. -/
theorem Cdx.ringY (h : Cdx W u H rb t A cp (T ++ d :: R)) (hg : Gc t) {q' : List UInt8} {A4 : Option Addr} {c4 : Nat} (k : Ke [d.y] u u') (r : Rs u' d.y 1024 q' A4 c4) (hA : ∀ a, A4 = some a → u.heap.size ≤ a.block ∧ a.block < u'.heap.size) :
    Cdx W u' (H ++ blkA A4) rb (t.up d.id { d.c with w := q' }) A cp (T ++ { d with c := { d.c with w := q' } } :: R) ∧ Sp u u' H (H ++ blkA A4) := by
  have hrd := h.rg d (by simp)
  have hnd := h.nd
  rw [rbs_app, rbs_cons] at hnd
  obtain ⟨n1, n2, n3, n4, n5⟩ := nd_parts hnd
  have kH : Ke H u u' := k.more (fun y hy => by rw [List.mem_singleton.1 hy]; exact hrd.2.sH)
  have hs : Sp u u' H (H ++ blkA A4) := ⟨kH, fun y hy => by
    rcases List.mem_append.1 hy with e | e
    · exact .inl e
    · obtain ⟨a, ha, e⟩ := mem_blkA.1 e
      exact .inr (by rw [← e]; exact (hA a ha).1)⟩
  have hl : ∀ y ∈ H, y ∈ H ++ blkA A4 := fun y hy => List.mem_append_left _ hy
  have hoff : ∀ {s m : Nat} {q : List UInt8}, Rqd u H (rb :: rowB A) s m q → s ≠ d.y → Rqd u' (H ++ blkA A4) (rb :: rowB A) s m q := fun hr hne => (hr.off hrd.2 hne k).mono hl (fun y hy => .inl hy)
  have hin : ∀ e : Cdr, e ∈ T ++ d :: R → e.x ≠ d.y → e.y ≠ d.y → Rqd u' (H ++ blkA A4) (rb :: rowB A) e.x 512 e.c.q ∧ Rqd u' (H ++ blkA A4) (rb :: rowB A) e.y 1024 e.c.w := fun e he e1 e2 => ⟨hoff (h.rg e he).1 e1, hoff (h.rg e he).2 e2⟩
  refine ⟨⟨up_mid hg h.e rfl, ?_, ?_, fun g hg2 => ⟨hl g (h.ob g hg2).1, (h.ob g hg2).2⟩, fun e he => ?_, ?_, hl _ h.rb, h.l.trans (kH.below h.l.size h.lo), fun y hy => ?_, fun y hy => ?_⟩, hs⟩
  · rw [show (T ++ { d with c := { d.c with w := q' } } :: R).length = (T ++ d :: R).length by simp]
    exact h.bk.ke k (fun hx => hrd.2.sF (by rw [← List.mem_singleton.1 hx]; exact List.mem_cons_self))
  · have ho := h.ow.keR k (fun g hg2 hx => hrd.2.sF (by rw [← List.mem_singleton.1 hx]; exact List.mem_cons_of_mem _ (rowB_mem.2 hg2)))
    unfold Ow at ho ⊢
    rw [show (T ++ { d with c := { d.c with w := q' } } :: R).length = (T ++ d :: R).length by simp, fl_same (d := d) (show cdc { d with c := { d.c with w := q' } } = cdc d from rfl)]
    exact ho
  · rcases List.mem_append.1 he with e1 | e1
    · exact hin e (List.mem_append_left _ e1) (fun ex => n2 (ex ▸ (mem_rbs e1).1)) (fun ex => n2 (ex ▸ (mem_rbs e1).2))
    · rcases List.mem_cons.1 e1 with e1 | e1
      · subst e1
        have hnew : Rqd u' (H ++ blkA A4) (rb :: rowB A) d.y 1024 q' := ⟨⟨A4, c4, r, fun a ha => ⟨List.mem_append_right _ (mem_blkA.2 ⟨a, ha, rfl⟩), fun hx => by have h1 := h.hi _ (h.F _ hx); have h2 := (hA a ha).1; omega⟩⟩, hl _ hrd.2.sH, hrd.2.sF⟩
        exact ⟨hoff hrd.1 n3, hnew⟩
      · exact hin e (List.mem_append_right _ (List.mem_cons_of_mem _ e1)) (fun ex => n5 (ex ▸ (mem_rbs e1).1)) (fun ex => n5 (ex ▸ (mem_rbs e1).2))
  · have := h.nd
    rw [rbs_app, rbs_cons] at this ⊢
    exact this
  · rcases hs.g y hy with e | e
    · exact h.lo y e
    · exact Nat.le_trans h.l.size e
  · rcases List.mem_append.1 hy with e | e
    · exact Nat.lt_of_lt_of_le (h.hi y e) kH.size
    · obtain ⟨a, ha, e⟩ := mem_blkA.1 e
      rw [← e]; exact (hA a ha).2
theorem Cdx.frz {b : Nat} (h : Cdx W u H rb t (some ⟨b, 0, none⟩) cp L) (i : Nat) : u.frozen? ⟨b, i, none⟩ = false := by
  rcases h.ow.2 with ⟨hv, _⟩ | ⟨g, cap, cur, hv, _, hh, _⟩
  · injection hv with h1
    cases h1
  · injection hv with h1
    injection h1 with h1
    injection h1 with h1
    subst h1
    exact Bk.frozen (t := 64) (cs := cur) hh i
/-- The cells of one row. -/
theorem Cdx.at_ {b : Nat} (h : Cdx W u H rb t (some ⟨b, 0, none⟩) cp (T ++ d :: R)) : u.cell? ⟨rb, 0, none⟩ = some (.slice (some ⟨b, 0, none⟩) (T ++ d :: R).length cp) ∧ u.cell? ⟨b, T.length * 6 + 4, none⟩ = some (.int .i64 (d.c.cr : Int)) := by
  have hlt : T.length < (T ++ d :: R).length := by simp
  obtain ⟨b2, o2, x2, h1, h2, h3⟩ := row6c h.rw_ T.length hlt
  have e : x2 = d := by
    rw [List.getElem?_append_right (Nat.le_refl _), Nat.sub_self] at h2
    simpa using h2.symm
  subst e
  injection h1 with h1
  injection h1 with h1 h4
  subst h1; subst h4
  have := (h3 u (Below.refl _ _)).2.2.2.2.1
  rw [Nat.zero_add] at this
  exact ⟨h.bk.cell 0, this⟩
theorem Cdx.cdt (h : Cdx W u H rb t A cp L) : Cdt W u H rb t := ⟨A, cp, L, h⟩
theorem up_up (t : Tc) (i : Int) (c c' : Cn) : (t.up i c).up i c' = t.up i c' := by
  show (⟨upC (upC t.l i c) i c', t.la⟩ : Tc) = ⟨upC t.l i c', t.la⟩
  have : upC (upC t.l i c) i c' = upC t.l i c' := by
    unfold upC
    rw [List.map_map]
    refine List.map_congr_left (fun p hp => ?_)
    show (if (if p.1 = i then (i, c) else p).1 = i then (i, c') else (if p.1 = i then (i, c) else p)) = _
    by_cases h : p.1 = i
    · rw [if_pos h, if_pos rfl, if_pos h]
    · rw [if_neg h, if_neg h]
  rw [this]
/-- Bytes stay where a cell is set that is none of theirs. -/
theorem Rb.keep1 {B : Nat} {A : Option Addr} {l : List UInt8} (h : Rb u B A l) {p : Addr} {v0 : Value} (hp : u.cell? p = some v0) (hv : ∀ x : Int, v0 ≠ .int .u8 x) (v : Value) : Rb (u.setCell p v) B A l := by
  rcases h with h0 | ⟨b, o, e, hb, hc⟩
  · exact .inl h0
  · refine .inr ⟨b, o, e, hb, fun i hi => ?_⟩
    have hne : p ≠ ⟨b, o + i, none⟩ := fun e2 => by
      have := hc i hi
      rw [← e2, hp] at this
      injection this with this
      exact hv _ this
    exact (World.cell?_setCell_other u p _ v hne).trans (hc i hi)
/-- One cell of one row was set. -/
theorem Cdx.cell {b : Nat} (h : Cdx W u H rb t (some ⟨b, 0, none⟩) cp (T ++ d :: R)) (hg : Gc t) (j : Nat) (hj : j < 6) (v : Value) (c' : Cn) (hv : cdc { d with c := c' } = (cdc d).setIfInBounds j v) (hq : c'.q = d.c.q) (hw : c'.w = d.c.w) :
    Cdt W (u.setCell ⟨b, T.length * 6 + j, none⟩ v) H rb (t.up d.id c') ∧ Sp u (u.setCell ⟨b, T.length * 6 + j, none⟩ v) H H := by
  have hb : b ∈ rowB (some ⟨b, 0, none⟩) := rowB_mem (n := 0) (c := 0).2 rfl
  have k : Ke [b] u (u.setCell ⟨b, T.length * 6 + j, none⟩ v) := (Ke.refl [b] u).set (p := ⟨b, T.length * 6 + j, none⟩) (by simp) _
  have hbF : ∀ y ∈ [b], y ∈ rb :: rowB (some ⟨b, 0, none⟩) := fun y hy => by rw [List.mem_singleton.1 hy]; exact List.mem_cons_of_mem _ hb
  have kH : Ke H u (u.setCell ⟨b, T.length * 6 + j, none⟩ v) := k.more (fun y hy => h.F y (hbF y hy))
  have hlen : (T ++ { d with c := c' } :: R).length = (T ++ d :: R).length := by simp
  have hop : ∀ e ∈ T ++ d :: R, Rqd (u.setCell ⟨b, T.length * 6 + j, none⟩ v) H (rb :: rowB (some ⟨b, 0, none⟩)) e.x 512 e.c.q ∧ Rqd (u.setCell ⟨b, T.length * 6 + j, none⟩ v) H (rb :: rowB (some ⟨b, 0, none⟩)) e.y 1024 e.c.w := fun e he => ⟨(h.rg e he).1.inF k hbF, (h.rg e he).2.inF k hbF⟩
  refine ⟨⟨some ⟨b, 0, none⟩, cp, T ++ { d with c := c' } :: R, up_mid hg h.e rfl, ?_, ?_, h.ob, fun e he => ?_, ?_, h.rb, h.l.trans (kH.below h.l.size h.lo), h.lo, fun y hy => Nat.lt_of_lt_of_le (h.hi y hy) kH.size⟩, Sp.of kH⟩
  · rw [hlen]
    exact h.bk.ke k (fun hx => (h.ob b hb).2 (List.mem_singleton.1 hx).symm)
  · exact Ow.upd (f := cdc) (k := 6) (fun _ => rfl) h.ow { d with c := c' } j hj v hv
  · rcases List.mem_append.1 he with e1 | e1
    · exact hop e (List.mem_append_left _ e1)
    · rcases List.mem_cons.1 e1 with e1 | e1
      · subst e1
        have := hop d (by simp)
        show Rqd _ H _ d.x 512 c'.q ∧ Rqd _ H _ d.y 1024 c'.w
        rw [hq, hw]
        exact this
      · exact hop e (List.mem_append_right _ (List.mem_cons_of_mem _ e1))
  · have := h.nd
    rw [rbs_app, rbs_cons] at this ⊢
    exact this
end
end Go.Proofs.YtndamiocmdnenaaGreat

/- frame.Put, and the document's own: their contracts. -/
namespace Go.Proofs.YtndamiocmdnenaaGreat
set_option linter.unusedVariables false
set_option maxRecDepth 100000
set_option linter.unusedSimpArgs false
open Go.RowKit

theorem head_cells (n : Nat) (h : n ≤ 200) : (#[.int .u8 170, .int .u8 (n : Int)] : Array Value) = bcells [170, UInt8.ofNat n] := by
  have e : ((UInt8.ofNat n).toNat : Int) = (n : Int) := by rw [UInt8.toNat_ofNat']; omega
  show _ = (#[u8 170, u8 (UInt8.ofNat n)] : Array Value)
  unfold u8
  rw [e]
  rfl
theorem fit_fine (l : List UInt8) (n : Nat) (h : l.length = n) : fitB (n : Int) = fineB l := by
  unfold fitB fineB
  rw [h]
  congr 1
  · simp
  · exact decide_eq_decide.2 (by omega)

end Go.Proofs.YtndamiocmdnenaaGreat

/- The document's own First: its contract. -/
namespace Go.Proofs.YtndamiocmdnenaaGreat
set_option linter.unusedVariables false
set_option maxRecDepth 100000
set_option linter.unusedSimpArgs false
open Go.RowKit

theorem beg_bad_ways (l : List UInt8) (h : begB l = false) : (∃ m r, l = m :: r ∧ m.toNat ≠ 170) ∨ ∃ m k r, l = m :: k :: r ∧ m.toNat = 170 ∧ (k.toNat = 0 ∨ 200 < k.toNat) := by
  match l, h with
  | [], h => cases h
  | [m], h =>
    left
    refine ⟨m, [], rfl, fun e => ?_⟩
    have : (m.toNat == 170) = false := h
    rw [e] at this; cases this
  | m :: k :: r, h =>
    have h1 : (m.toNat == 170 && (decide (0 < k.toNat) && decide (k.toNat ≤ 200))) = false := h
    by_cases hm : m.toNat = 170
    · right
      refine ⟨m, k, r, rfl, hm, ?_⟩
      rw [hm] at h1
      rcases Nat.eq_zero_or_pos k.toNat with h2 | h2
      · exact .inl h2
      · right
        rcases Nat.lt_or_ge 200 k.toNat with h3 | h3
        · exact h3
        · simp [h2, h3] at h1
    · exact .inl ⟨m, k :: r, rfl, hm⟩
theorem beg_good_short (l : List UInt8) (h : begB l = true) (hs : l.length < 2) : l = [] ∨ ∃ m, l = [m] ∧ m.toNat = 170 := by
  match l, h, hs with
  | [], _, _ => exact .inl rfl
  | [m], h, _ =>
    have : (m.toNat == 170) = true := h
    exact .inr ⟨m, rfl, by simpa using this⟩
  | _ :: _ :: _, _, hs => simp only [List.length_cons] at hs; omega

set_option maxHeartbeats 4000000 in
theorem rfirst_ok (A : Option Addr) (n c : Nat) (l : List UInt8) (w : World) (hl : l.length = n) (hc : n ≤ c) (hmax : c ≤ 9223372036854775807) (hR : Rb w w.heap.size A l) :
    Calls Tryz.prog 72 #[.slice A n c] w fun e w' => ∃ A2 c2, e = .returned (.tuple #[.slice A2 (partF l).length c2, .int .i64 (lenF l : Nat), .int .i64 (errF l : Nat)]) ∧ OB w' w.heap.size 5 A2 c2 (partF l) ∧ (A2 = none → c2 = 0) ∧ Below w.heap.size w w' := by
  rcases first_ways l with ⟨hb, h0⟩ | ⟨hb, h0, hs⟩ | ⟨m, k, r, he, hb, hm, hk0, hk2, hway⟩
  · rw [h0, part_nil l h0, err_bad l hb]
    rcases beg_bad_ways l hb with ⟨m, r, he, hm⟩ | ⟨m, k, r, he, hm, hk⟩
    · obtain ⟨b, o, rfl, _, c0⟩ := hR.byte 0 (by rw [he]; simp)
      have e0 : l[0]'(by rw [he]; simp) = m := by simp [he]
      rw [e0, Nat.add_zero] at c0
      have g0 : 0 < n := by rw [← hl, he]; simp
      have g1 : (0 : Int) < (n : Int) := by omega
      obtain ⟨q, hq⟩ : ∃ q : Int, q = (m.toNat : Int) := ⟨_, rfl⟩
      rw [← hq] at c0
      have e2 : (q == 170) = false := by rw [beq_eq_false_iff_ne]; omega
      have e3 : ¬ (q = 170) := by omega
      clear hb h0 hl hR he hm hq e0
      go_enter Tryz.func72, Tryz.ntmps72
      go_wp2
      all_goals (try (have hh := ‹some undef = some (Value.bool _)›; injection hh with hh; cases hh; done))
      go_ret3
      exact ⟨none, 0, rfl, OB.nil _ _ _, fun _ => rfl, Below.refl _ _⟩
    · obtain ⟨b, o, rfl, _, c0⟩ := hR.byte 0 (by rw [he]; simp)
      obtain ⟨b', o', e', _, c1⟩ := hR.byte 1 (by rw [he]; simp)
      injection e' with e'
      injection e' with e1 e2
      subst e1; subst e2
      have e0 : l[0]'(by rw [he]; simp) = m := by simp [he]
      have e1 : l[1]'(by rw [he]; simp) = k := by simp [he]
      rw [e0, Nat.add_zero, hm] at c0
      rw [e1] at c1
      have g0 : 1 < n := by rw [← hl, he]; simp only [List.length_cons]; omega
      have g1 : (0 : Int) < (n : Int) := by omega
      have g2 : (1 : Int) < (n : Int) := by omega
      have g3 : 0 < n := by omega
      obtain ⟨q, hq⟩ : ∃ q : Int, q = (k.toNat : Int) := ⟨_, rfl⟩
      rw [← hq] at c1
      rcases hk with hk | hk
      · have e5 : q = 0 := by omega
        subst e5
        clear hb h0 hl hR he hm hq e0 e1
        go_enter Tryz.func72, Tryz.ntmps72
        go_wp2
        go_ret3
        exact ⟨none, 0, rfl, OB.nil _ _ _, fun _ => rfl, Below.refl _ _⟩
      · have e5 : (q == 0) = false := by rw [beq_eq_false_iff_ne]; omega
        have e6 : (200 : Int) < q := by omega
        clear hb h0 hl hR he hm hq e0 e1
        go_enter Tryz.func72, Tryz.ntmps72
        go_wp2
        go_ret3
        exact ⟨none, 0, rfl, OB.nil _ _ _, fun _ => rfl, Below.refl _ _⟩
  · rw [h0, part_nil l h0, err_ok l hb]
    rcases beg_good_short l hb hs with he | ⟨m, he, hm⟩
    · rw [he] at hl
      simp only [List.length_nil] at hl
      subst hl
      clear hb h0 hR hs
      go_enter Tryz.func72, Tryz.ntmps72
      go_wp2
      all_goals (try (have hh := ‹some undef = some (Value.bool _)›; injection hh with hh; cases hh; done))
      go_ret3
      exact ⟨none, 0, rfl, OB.nil _ _ _, fun _ => rfl, Below.refl _ _⟩
    · obtain ⟨b, o, rfl, _, c0⟩ := hR.byte 0 (by rw [he]; simp)
      have e0 : l[0]'(by rw [he]; simp) = m := by simp [he]
      rw [e0, Nat.add_zero, hm] at c0
      rw [he] at hl
      simp only [List.length_cons, List.length_nil] at hl
      subst hl
      clear hb h0 hR hs hm e0
      go_enter Tryz.func72, Tryz.ntmps72
      go_wp2
      all_goals (try (have hh := ‹some undef = some (Value.bool _)›; injection hh with hh; cases hh; done))
      go_ret3
      exact ⟨none, 0, rfl, OB.nil _ _ _, fun _ => rfl, Below.refl _ _⟩
  · rw [err_ok l hb]
    have hl0 : 0 < l.length := by rw [he]; simp
    have hl1 : 1 < l.length := by rw [he]; simp
    have hlr : l.length = r.length + 2 := by rw [he]; rfl
    obtain ⟨b, o, rfl, hbl, c0⟩ := hR.byte 0 hl0
    obtain ⟨b', o', e', _, c1⟩ := hR.byte 1 hl1
    injection e' with e'
    injection e' with e1 e2
    subst e1; subst e2
    have e0 : l[0] = m := by simp [he]
    have e1 : l[1] = k := by simp [he]
    rw [e0, Nat.add_zero, hm] at c0
    rw [e1] at c1
    have g0 : 0 < n := by omega
    have g1 : (0 : Int) < (n : Int) := by omega
    have g2 : (1 : Int) < (n : Int) := by omega
    have g3 : ¬ ((n : Int) < 2) := by omega
    have HRR := Lib.hid hR
    have HE := Lib.hid he
    obtain ⟨q, hq⟩ : ∃ q, q = k.toNat := ⟨_, rfl⟩
    rw [← hq] at c1 hk0 hk2 hway
    have e5 : ((q : Int) == 0) = false := by rw [beq_eq_false_iff_ne]; omega
    have e6 : ¬ ((200 : Int) < (q : Int)) := by omega
    rcases hway with ⟨h0, hlt⟩ | ⟨h1, hle, hp⟩
    · rw [h0, part_nil l h0]
      have g4 : (n : Int) < 2 + (q : Int) := by omega
      clear hb h0 hl hR hlt he hq hm hl1 hl0 hlr e0 e1
      go_enter Tryz.func72, Tryz.ntmps72
      go_wp2
      all_goals (try (have hh := ‹some undef = some (Value.bool _)›; injection hh with hh; cases hh; done))
      go_ret3
      exact ⟨none, 0, rfl, OB.nil _ _ _, fun _ => rfl, Below.refl _ _⟩
    · rw [h1, hp]
      have htl : (r.take q).length = q := by rw [List.length_take]; omega
      have HTL := Lib.hid htl
      have HRT := Lib.hid (show Rb w w.heap.size (some ⟨b, o + 2, none⟩) (r.take q) from .inr ⟨b, o + 2, rfl, hbl, by
        intro i hi
        have hi2 : 2 + i < l.length := by omega
        obtain ⟨b', o', e', _, ci⟩ := hR.byte (2 + i) hi2
        injection e' with e'
        injection e' with e1 e2
        subst e1; subst e2
        rw [← Nat.add_assoc] at ci
        rw [ci]
        have e3 : l[2 + i] = (r.take q)[i] := by
          have : l[2 + i]? = r[i]? := by rw [he]; rw [Nat.add_comm]; rfl
          rw [List.getElem?_eq_getElem hi2, List.getElem?_eq_getElem (by omega)] at this
          rw [List.getElem_take]
          exact Option.some.inj this
        rw [e3]⟩)
      have g4 : (2 : Int) + (q : Int) ≤ (n : Int) := by omega
      have g5 : (2 : Int) ≤ 2 + (q : Int) := by omega
      have g6 : (2 : Int) + (q : Int) ≤ (c : Int) := by omega
      have g7 : ¬ (c = 2) := by omega
      have e8 : 2 + q - 2 = q := by omega
      clear hb hl hR hle he hq hm hl1 hl0 hlr h1 hp htl e0 e1
      go_enter Tryz.func72, Tryz.ntmps72
      go_wp2_with (at_builtin; refine wp_app rfl (.tmp 50) (.tmp 53) 30 5 rfl Tryz.underlying30 frbytesInfo w.heap.size [] (some ⟨w.heap.size, 0, none⟩) 0 0 rfl rfl (OB.new _ [] (Nat.le_refl _) (by simp)) (r.take q) ⟨b, o + 2, none⟩ q (c - 2) w.heap.size (by show Value.slice _ (2 + q - 2) _ = _; rw [e8]) HTL.out (HRT.out.below ((Below.refl _ w).alloc (Nat.le_refl _) _) (Nat.le_refl _)) (by rw [HTL.out]; simp only [List.length_nil]; omega) (by rw [World.size_alloc]; omega) ?_; intro A4 c4 w4 ho4 hg4 hb4)
      go_ret3
      rw [List.nil_append] at ho4
      have e9 : min q r.length = (r.take q).length := by rw [List.length_take]
      rw [e9]
      have e7 : (2 : Int) + (q : Int) = ((q + 2 : Nat) : Int) := by omega
      rw [e7]
      refine ⟨A4, c4, rfl, ho4, fun h => ?_, ((Below.refl _ w).alloc (Nat.le_refl _) _).trans hb4⟩
      obtain ⟨g, e, _⟩ := ho4.form (by intro h0; rw [h0] at HTL; have := HTL.out; simp at this; omega)
      rw [h] at e; cases e
end Go.Proofs.YtndamiocmdnenaaGreat
