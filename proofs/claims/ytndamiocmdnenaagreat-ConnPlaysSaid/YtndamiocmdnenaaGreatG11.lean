/- TcR, PrM, PrR, RowsAtM, PrR2, OwUpd, OpAt, CdR: texts of this seat, one behind the other. -/
import Derived.Test.YtndamiocmdnenaaGreatG9
import Derived.Test.YtndamiocmdnenaaGreatG3
import Derived.Test.YtndamiocmdnenaaGreatG10
import Derived.BigQuiet
import Derived.BigRegion
import Derived.Deep.RegionLaw
import Derived.Deep.Cut
import Derived.Test.YtndamiocmdnenaaGreatG1
/- The document's own book of tickets: its memory; New, drop, Void: their contracts. (Begun in round 14, in a seat of the document's own book alone.) -/
namespace Go.Proofs.YtndamiocmdnenaaGreat
set_option linter.unusedVariables false
set_option maxRecDepth 100000
set_option linter.unusedSimpArgs false
open Go.RowKit

abbrev pcs (p : Ps) : Array Value := #[.int .i64 p.vis, .string p.nm, .string p.ten, .int .i64 p.ep]
abbrev tkc (x : Tk5) : Array Value := #[.string x.tx, .int .i64 x.p.vis, .string x.p.nm, .string x.p.ten, .int .i64 x.p.ep]
section
variable {W u u' : World} {H H' : List Nat} {db : Nat} {key : ByteArray} {b b' : Bt}
/-- One good ticket. -/
theorem row5 {w : World} {A : Option Addr} {l : List Tk5} (h : Rw 5 tkc w A l) (i : Nat) (hi : i < l.length) :
    ∃ b o x, A = some ⟨b, o, none⟩ ∧ l[i]? = some x ∧ ∀ u, Below w.heap.size w u → u.cell? ⟨b, o + i * 5, none⟩ = some (.string x.tx) ∧ u.cell? ⟨b, o + i * 5 + 1, none⟩ = some (.int .i64 x.p.vis) ∧ u.cell? ⟨b, o + i * 5 + 2, none⟩ = some (.string x.p.nm) ∧ u.cell? ⟨b, o + i * 5 + 3, none⟩ = some (.string x.p.ten) ∧ u.cell? ⟨b, o + i * 5 + 4, none⟩ = some (.int .i64 x.p.ep) := by
  obtain ⟨b, o, x, h1, h2, h3⟩ := Rw.at_ h i hi
  exact ⟨b, o, x, h1, h2, fun u hb => ⟨h3 u hb 0 (by omega), h3 u hb 1 (by omega), h3 u hb 2 (by omega), h3 u hb 3 (by omega), h3 u hb 4 (by omega)⟩⟩
end
/-- Where row[lo:] lies, of rows of k cells. -/
def tailK (k : Nat) (A : Option Addr) (c lo : Nat) : Option Addr := if c = lo then A else A.map (·.add (lo * k))
theorem tailK_none {k : Nat} {A : Option Addr} {c lo : Nat} (h : tailK k A c lo = none) : A = none := by
  unfold tailK at h
  split at h
  · exact h
  · cases A with
    | none => rfl
    | some a => cases h
theorem Rw.frontK {β : Type} {k : Nat} {f : β → Array Value} {w : World} {A : Option Addr} {l : List β} (h : Rw k f w A l) (n : Nat) : Rw k f w A (l.take n) := by
  rcases h with h | ⟨b, o, e, hb, hc⟩
  · left; rw [h]; simp
  · exact .inr ⟨b, o, e, hb, fun i hi j hj => by
      have hi' : i < l.length := by rw [List.length_take] at hi; omega
      rw [hc i hi' j hj, List.getElem_take]⟩
theorem Rw.tailK {β : Type} {k : Nat} {f : β → Array Value} {w : World} {A : Option Addr} {l : List β} {c : Nat} (h : Rw k f w A l) (lo : Nat) (hc : l.length ≤ c) : Rw k f w (Proofs.YtndamiocmdnenaaGreat.tailK k A c lo) (l.drop lo) := by
  by_cases h0 : l.drop lo = []
  · left; exact h0
  · have hlo : lo < l.length := by
      rcases Nat.lt_or_ge lo l.length with h1 | h1
      · exact h1
      · exact absurd (List.drop_of_length_le h1) h0
    rcases h with h | ⟨b, o, e, hb, hcl⟩
    · rw [h] at hlo; simp at hlo
    · subst e
      have e2 : Proofs.YtndamiocmdnenaaGreat.tailK k (some ⟨b, o, none⟩) c lo = some ⟨b, o + lo * k, none⟩ := by
        unfold Proofs.YtndamiocmdnenaaGreat.tailK
        rw [if_neg (by omega)]
        simp only [Option.map_some, Addr.add_lit]
      rw [e2]
      refine .inr ⟨b, o + lo * k, rfl, hb, fun i hi j hj => ?_⟩
      have hi' : lo + i < l.length := by rw [List.length_drop] at hi; omega
      have := hcl (lo + i) hi' j hj
      rw [show o + lo * k + i * k + j = o + (lo + i) * k + j by rw [Nat.add_mul]; omega, this, List.getElem_drop]
/-- append of rows, as one step of a region that draws. -/
theorem step_rows {β : Type} {P : Program} {t e : TypeId} {k by_ : Nat} {f : β → Array Value} {w : World} {B : Nat} {A : Option Addr} {c : Nat} {l : List β} (R : Ro P t e k by_ f) {ops : Array Oper} {o : Oper} {a : Act} {K : Act → World → Prop} {Q : Exit → Act → World → Prop} {E : Prop} (hg : o.guard = none) (s x : Operand)
    (ho : o.op = .call { callee := .builtin .append, args := #[s, x], argTypes := #[t, t] }) (n : Nat) (hs : a.eval s = .slice A n c) (hn : l.length = n) (hown : Ow e k f w B A c l)
    (M : List β) (A' : Option Addr) (m c' : Nat) (hx : a.eval x = .slice A' m c') (hm : M.length = m) (hnil : A' = none → m = 0 ∧ c' = 0) (hR : Rw k f w A' M)
    (hlen : n + m ≤ 1099511627776) (hbase : B ≤ w.heap.size) (s' : Nat) (hsum : n + m = s')
    (h : ∀ A2 c2 w', Hid (Ow e k f w' B A2 c2 (l ++ M) ∧ Below B w w') → K (a.put o.dst (.slice A2 s' c2)) w') : if Region.wanted o (yielded ops a.tmps) = true then o.wp P a w K Q else E := by
  have hw : Region.wanted o (yielded ops a.tmps) = true := by simp [Region.wanted, hg]
  rw [if_pos hw]
  exact op_rows R s x ho n hs hn hown M A' m c' hx hm hnil hR hlen hbase s' hsum (fun A2 c2 w' h1 _ h2 => h A2 c2 w' (Lib.hid ⟨h1, h2⟩))
section
variable {W u u' : World} {H H' : List Nat} {db : Nat} {key : ByteArray} {b b' : Bt}
end
end Go.Proofs.YtndamiocmdnenaaGreat

/- Pairs: what the document asks, as Lean functions. (Begun in round 15, ahead of the landing: nothing of the program is named here.) -/
namespace Go.Proofs.YtndamiocmdnenaaGreat
set_option linter.unusedVariables false
set_option maxRecDepth 100000
set_option linter.unusedSimpArgs false

/-- A pair. -/
structure Pp where
  v : Int
  c : Int
deriving DecidableEq
/-- A table: its pairs by rising visitors, who was ever in one. -/
structure Tp where
  l : List Pp
  ev : List Int
def Pp.has (p : Pp) (id : Int) : Bool := p.v == id || p.c == id
def Pp.ids (p : Pp) : List Int := [p.v, p.c]
def insP (p : Pp) : List Pp → List Pp
  | [] => [p]
  | a :: r => if p.v < a.v then p :: a :: r else a :: insP p r
def joinP (t : Tp) (v c : Int) : Int × Tp :=
  if v < 1 ∨ c < 1 ∨ v = c then (1, t) else if v ∈ t.ev ∨ c ∈ t.ev then (4, t) else (0, ⟨insP ⟨v, c⟩ t.l, t.ev ++ [v, c]⟩)
def othP (l : List Pp) (id : Int) : Int × Bool :=
  match l.find? (fun p => p.has id) with
  | none => (0, false)
  | some p => (if p.v = id then p.c else p.v, true)
def partL (l : List Pp) (id : Int) : List Pp := l.filter fun p => !p.has id
def partP (t : Tp) (id : Int) : (Int × Bool) × Tp := (othP t.l id, ⟨partL t.l id, t.ev⟩)
theorem has_iff {p : Pp} {id : Int} : p.has id = true ↔ id ∈ p.ids := by
  unfold Pp.has Pp.ids
  simp only [Bool.or_eq_true, beq_iff_eq, List.mem_cons, List.not_mem_nil, or_false]
  constructor
  · rintro (h | h)
    · exact .inl h.symm
    · exact .inr h.symm
  · rintro (h | h)
    · exact .inl h.symm
    · exact .inr h.symm
def idsL (l : List Pp) : List Int := l.flatMap Pp.ids
theorem ids_iff {l : List Pp} {id : Int} : id ∈ idsL l ↔ ∃ p ∈ l, p.has id = true := by
  unfold idsL
  rw [List.mem_flatMap]
  constructor
  · rintro ⟨p, hp, h⟩; exact ⟨p, hp, has_iff.2 h⟩
  · rintro ⟨p, hp, h⟩; exact ⟨p, hp, has_iff.1 h⟩
/-- A table that is right. -/
structure Gp (t : Tp) : Prop where
  up : t.l.Pairwise (fun a b => a.v < b.v)
  nd : (idsL t.l).Nodup
  ev : ∀ x ∈ idsL t.l, x ∈ t.ev
  pos : ∀ x ∈ t.ev, 1 ≤ x
theorem gp_nil : Gp ⟨[], []⟩ := ⟨List.Pairwise.nil, List.nodup_nil, fun x h => (by cases h), fun x h => (by cases h)⟩
theorem ins_mem {p : Pp} : ∀ {l : List Pp} {x : Pp}, x ∈ insP p l ↔ x = p ∨ x ∈ l
  | [], x => by simp [insP]
  | a :: r, x => by
    unfold insP
    split
    · simp
    · rw [List.mem_cons, ins_mem (l := r), List.mem_cons]
      constructor
      · rintro (h | h | h)
        · exact .inr (.inl h)
        · exact .inl h
        · exact .inr (.inr h)
      · rintro (h | h | h)
        · exact .inr (.inl h)
        · exact .inl h
        · exact .inr (.inr h)
theorem ins_perm (p : Pp) : ∀ l : List Pp, (insP p l).Perm (p :: l)
  | [] => List.Perm.refl _
  | a :: r => by
    unfold insP
    split
    · exact List.Perm.refl _
    · exact ((ins_perm p r).cons a).trans (List.Perm.swap p a r)
theorem ins_up {p : Pp} : ∀ {l : List Pp}, l.Pairwise (fun a b => a.v < b.v) → (∀ a ∈ l, a.v ≠ p.v) → (insP p l).Pairwise (fun a b => a.v < b.v)
  | [], _, _ => by simp [insP]
  | a :: r, h, hn => by
    obtain ⟨h1, h2⟩ := List.pairwise_cons.1 h
    unfold insP
    split
    · rename_i hlt
      refine List.pairwise_cons.2 ⟨fun b hb => ?_, h⟩
      rcases List.mem_cons.1 hb with rfl | hb
      · exact hlt
      · exact Int.lt_trans hlt (h1 b hb)
    · rename_i hlt
      refine List.pairwise_cons.2 ⟨fun b hb => ?_, ins_up h2 (fun x hx => hn x (List.mem_cons_of_mem _ hx))⟩
      rcases ins_mem.1 hb with rfl | hb
      · have := hn a (List.mem_cons_self ..)
        omega
      · exact h1 b hb
theorem ids_perm {l m : List Pp} (h : l.Perm m) : (idsL l).Perm (idsL m) := List.Perm.flatMap_right _ h
theorem gp_join {t : Tp} (h : Gp t) (v c : Int) : Gp (joinP t v c).2 := by
  unfold joinP
  split
  · exact h
  · rename_i h1
    split
    · exact h
    · rename_i h2
      have hp := ids_perm (ins_perm ⟨v, c⟩ t.l)
      refine ⟨ins_up h.up fun a ha e => h2 (.inl (h.ev v (ids_iff.2 ⟨a, ha, by unfold Pp.has; simp only at e; rw [e]; simp⟩))), ?_, fun x hx => ?_, fun x hx => ?_⟩
      · rw [hp.nodup_iff]
        show (v :: c :: idsL t.l).Nodup
        refine List.nodup_cons.2 ⟨fun hm => ?_, List.nodup_cons.2 ⟨fun hm => h2 (.inr (h.ev c hm)), h.nd⟩⟩
        rcases List.mem_cons.1 hm with e | hm
        · exact h1 (.inr (.inr e))
        · exact h2 (.inl (h.ev v hm))
      · have hx2 : x ∈ v :: c :: idsL t.l := hp.mem_iff.1 hx
        show x ∈ t.ev ++ [v, c]
        rw [List.mem_append]
        rcases List.mem_cons.1 hx2 with rfl | hx2
        · exact .inr (by simp)
        · rcases List.mem_cons.1 hx2 with rfl | hx2
          · exact .inr (by simp)
          · exact .inl (h.ev x hx2)
      · have hx2 : x ∈ t.ev ++ [v, c] := hx
        rcases List.mem_append.1 hx2 with hx2 | hx2
        · exact h.pos x hx2
        · simp only [List.mem_cons, List.not_mem_nil, or_false] at hx2
          rcases hx2 with rfl | rfl <;> omega
theorem ids_sub {l m : List Pp} (h : l.Sublist m) : (idsL l).Sublist (idsL m) := by
  induction h with
  | slnil => exact List.Sublist.refl _
  | cons a _ ih => exact ih.trans (List.sublist_append_right _ _)
  | cons_cons a _ ih => exact List.Sublist.append (List.Sublist.refl _) ih
theorem part_sub (l : List Pp) (id : Int) : (partL l id).Sublist l := List.filter_sublist
theorem gp_part {t : Tp} (h : Gp t) (id : Int) : Gp (partP t id).2 :=
  ⟨h.up.sublist (part_sub _ _), h.nd.sublist (ids_sub (part_sub _ _)), fun x hx => h.ev x ((ids_sub (part_sub _ _)).subset hx), h.pos⟩
theorem find_atP {l : List Pp} {q : Pp → Bool} {i : Nat} {x : Pp} (h : l[i]? = some x) (h0 : ∀ y ∈ l.take i, q y = false) (hx : q x = true) : l.find? q = some x := by
  obtain ⟨h1, h2⟩ := List.getElem?_eq_some_iff.1 h
  have e : l = l.take i ++ x :: l.drop (i + 1) := by rw [← h2, ← List.drop_eq_getElem_cons h1, List.take_append_drop]
  rw [e, List.find?_append, List.find?_eq_none.2 (fun y hy => by rw [h0 y hy]; simp), List.find?_cons, hx]
  rfl
theorem oth_none {l : List Pp} {id : Int} : (othP l id).2 = false ↔ id ∉ idsL l := by
  unfold othP
  cases hf : l.find? (fun p => p.has id) with
  | none =>
    refine ⟨fun _ hm => ?_, fun _ => rfl⟩
    obtain ⟨p, hp, h⟩ := ids_iff.1 hm
    have := List.find?_eq_none.1 hf p hp
    rw [h] at this
    simp at this
  | some p =>
    refine ⟨fun h => (by cases h), fun h => ?_⟩
    exact absurd (ids_iff.2 ⟨p, List.mem_of_find?_eq_some hf, by simpa using List.find?_some hf⟩) h
/-- A number is in one pair at most. -/
theorem one_pair {l : List Pp} (h : (idsL l).Nodup) {p q : Pp} (hp : p ∈ l) (hq : q ∈ l) {id : Int} (h1 : p.has id = true) (h2 : q.has id = true) : p = q := by
  induction l with
  | nil => cases hp
  | cons a r ih =>
    have hn : (a.ids ++ idsL r).Nodup := h
    obtain ⟨_, n2, n3⟩ := List.nodup_append.1 hn
    rcases List.mem_cons.1 hp with e1 | hp
    · rcases List.mem_cons.1 hq with e2 | hq
      · rw [e1, e2]
      · rw [e1] at h1
        exact absurd rfl (n3 id (has_iff.1 h1) id (ids_iff.2 ⟨q, hq, h2⟩))
    · rcases List.mem_cons.1 hq with e2 | hq
      · rw [e2] at h2
        exact absurd rfl (n3 id (has_iff.1 h2) id (ids_iff.2 ⟨p, hp, h1⟩))
      · exact ih n2 hp hq
theorem oth_of {l : List Pp} (h : (idsL l).Nodup) {p : Pp} (hp : p ∈ l) {id : Int} (h1 : p.has id = true) : othP l id = (if p.v = id then p.c else p.v, true) := by
  unfold othP
  cases hf : l.find? (fun p => p.has id) with
  | none =>
    have := List.find?_eq_none.1 hf p hp
    rw [h1] at this
    simp at this
  | some q =>
    have := one_pair h hp (List.mem_of_find?_eq_some hf) h1 (by simpa using List.find?_some hf)
    rw [this]
/-- How many are left when one parts. -/
theorem part_len {l : List Pp} (h : (idsL l).Nodup) (id : Int) : (partL l id).length + (if (othP l id).2 = true then 1 else 0) = l.length := by
  induction l with
  | nil => simp [partL, othP]
  | cons a r ih =>
    have hn : (a.ids ++ idsL r).Nodup := h
    obtain ⟨_, n2, n3⟩ := List.nodup_append.1 hn
    have ih := ih n2
    cases ha : a.has id with
    | true =>
      have h2 : (othP r id).2 = false := oth_none.2 fun hm => absurd rfl (n3 id (has_iff.1 ha) id hm)
      rw [h2] at ih
      have h3 : othP (a :: r) id = (if a.v = id then a.c else a.v, true) := oth_of h (List.mem_cons_self ..) ha
      rw [h3]
      unfold partL at ih ⊢
      rw [List.filter_cons, ha]
      simp at ih ⊢
      omega
    | false =>
      have h3 : othP (a :: r) id = othP r id := by
        unfold othP
        rw [List.find?_cons, ha]
      rw [h3]
      unfold partL at ih ⊢
      rw [List.filter_cons, ha]
      simp only [Bool.not_false, if_true, List.length_cons]
      omega
/-- Who parts is in no pair; nor is the other one. -/
theorem part_gone {l : List Pp} (h : (idsL l).Nodup) (id : Int) : id ∉ idsL (partL l id) ∧ ((othP l id).2 = true → (othP l id).1 ∉ idsL (partL l id)) := by
  constructor
  · intro hm
    obtain ⟨p, hp, h1⟩ := ids_iff.1 hm
    have := (List.mem_filter.1 hp).2
    rw [h1] at this
    simp at this
  · intro ht hm
    have hi : id ∈ idsL l := by
      apply Classical.byContradiction
      intro hx
      rw [oth_none.2 hx] at ht
      cases ht
    obtain ⟨p, hp, h1⟩ := ids_iff.1 hi
    rw [oth_of h hp h1] at hm
    obtain ⟨q, hq, h2⟩ := ids_iff.1 hm
    obtain ⟨hq1, hq2⟩ := List.mem_filter.1 hq
    have h3 : p.has (if p.v = id then p.c else p.v) = true := by
      unfold Pp.has
      split <;> simp
    have := one_pair h hp hq1 h3 h2
    subst this
    rw [h1] at hq2
    simp at hq2
end Go.Proofs.YtndamiocmdnenaaGreat

/- The document's own table of pairs: its memory; New, Was, Other: their contracts. (Begun in round 15, in a seat of the document's own table alone.) -/
namespace Go.Proofs.YtndamiocmdnenaaGreat
set_option linter.unusedVariables false
set_option maxRecDepth 100000
set_option linter.unusedSimpArgs false
open Go.RowKit

abbrev ppc (p : Pp) : Array Value := #[.int .i64 p.v, .int .i64 p.c]
abbrev piv (x : Int) : Array Value := #[.int .i64 x]
theorem roPI : Ro Tryz.prog 35 3 1 8 piv := ⟨Tryz.underlying35, (by
  obtain ⟨i, h1, h2, h3, h4⟩ := info_parts (show (Tryz.prog.info? 3).map (fun i => (i.zero, i.size, i.bytes)) = some (some (.int .i64 0), 1, 8) by kernel_rfl)
  exact ⟨i, _, h1, h2, h3, h4, rfl⟩), by omega, fun _ => rfl, (fun x u hu => by simp at hu; subst hu; rfl), by omega⟩
section
variable {W u u' : World} {H H' : List Nat} {rb : Nat} {t t' : Tp}
theorem Ow.keR {β : Type} {e : TypeId} {k : Nat} {f : β → Array Value} {B : Nat} {A : Option Addr} {c : Nat} {l : List β} {L : List Nat} (h : Ow e k f u B A c l) (ke : Ke L u u') (hn : ∀ g, (Value.slice A l.length c).ownBlock = some g → g ∉ L) : Ow e k f u' B A c l := by
  refine ⟨h.1, ?_⟩
  rcases h.2 with h0 | ⟨g, cap, cur, hv, hg, hh, r⟩
  · exact .inl h0
  · exact .inr ⟨g, cap, cur, hv, hg, (show Bk u g _ _ from hh).ke ke (hn g (by rw [hv]; rfl)), r⟩
theorem rowPP {w : World} {A : Option Addr} {l : List Pp} (h : Rw 2 ppc w A l) (i : Nat) (hi : i < l.length) :
    ∃ b o x, A = some ⟨b, o, none⟩ ∧ l[i]? = some x ∧ ∀ u, Below w.heap.size w u → u.cell? ⟨b, o + i * 2, none⟩ = some (.int .i64 x.v) ∧ u.cell? ⟨b, o + i * 2 + 1, none⟩ = some (.int .i64 x.c) := by
  obtain ⟨b, o, x, h1, h2, h3⟩ := Rw.at_ h i hi
  exact ⟨b, o, x, h1, h2, fun u hb => ⟨h3 u hb 0 (by omega), h3 u hb 1 (by omega)⟩⟩
theorem rowPI {w : World} {A : Option Addr} {l : List Int} (h : Rw 1 piv w A l) (i : Nat) (hi : i < l.length) :
    ∃ b o x, A = some ⟨b, o, none⟩ ∧ l[i]? = some x ∧ ∀ u, Below w.heap.size w u → u.cell? ⟨b, o + i, none⟩ = some (.int .i64 x) := by
  obtain ⟨b, o, x, h1, h2, h3⟩ := Rw.at_ h i hi
  exact ⟨b, o, x, h1, h2, fun u hb => by have := h3 u hb 0 (by omega); simpa using this⟩
end
end Go.Proofs.YtndamiocmdnenaaGreat

/- append of several rows at once, with the place of the new slice. Nothing of the program is named here. -/
namespace Go.Proofs.YtndamiocmdnenaaGreat
set_option linter.unusedVariables false
set_option maxRecDepth 100000
set_option linter.unusedSimpArgs false
open Go.RowKit

section
variable {β : Type} {P : Program} {t e : TypeId} {k by_ : Nat} {f : β → Array Value} {w w' : World} {B : Nat} {A : Option Addr} {c : Nat} {l : List β}
/-- append of rows, of one at least: where the new slice lies. -/
theorem wp_rowsM_at (R : Ro P t e k by_ f) {ops : Array Oper} {rest : List Oper} {o : Oper} {a : Act} {Q : Exit → Act → World → Prop} (hgd : o.guard = none) (s x : Operand)
    (ho : o.op = .call { callee := .builtin .append, args := #[s, x], argTypes := #[t, t] }) (n : Nat) (hs : a.eval s = .slice A n c) (hn : l.length = n) (hown : Ow e k f w B A c l)
    (M : List β) (m b c' : Nat) (hm : M.length = m) (hm0 : 0 < m) (hx : a.eval x = .slice (some ⟨b, 0, none⟩) m c') (hR : Rw k f w (some ⟨b, 0, none⟩) M)
    (hlen : n + m ≤ 1099511627776) (hbase : B ≤ w.heap.size) (s' : Nat) (hsum : n + m = s')
    (h : ∀ g2 c2 w', Ow e k f w' B (some ⟨g2, 0, none⟩) c2 (l ++ M) → w.grownBy w' (Value.slice A n c).ownBlock → Below B w w' → ((Value.slice A n c).ownBlock = some g2 ∨ g2 = w.heap.size) → wpList P ops Q rest (a.put o.dst (.slice (some ⟨g2, 0, none⟩) s' c2)) w') : wpList P ops Q (o :: rest) a w := by
  obtain ⟨i, z, hi1, hz, hsz, hby, hzc⟩ := R.hi
  subst hn; subst hsum; subst hm
  have hb8 : (l.length + M.length) * by_ ≤ 140737488355328 := Nat.le_trans (Nat.mul_le_mul hlen R.few) (by decide)
  refine wpList_append_own_at w hgd s x t ho B e i z k by_ R.ht hi1 hz hsz hby hzc R.k0 _ l.length (fl f l) hs hown ⟨b, 0, none⟩ M.length c' (fl f M) hx (fl_length R.fs M) ?_ ?_ (by unfold maxLen; omega) hb8 hbase ?_
  · intro q u hu
    obtain ⟨i', j, hi', hj, rfl, hv⟩ := fl_all R.fs R.k0 M q u hu
    rcases hR with h0 | ⟨b2, o', e1, _, hc⟩
    · rw [h0] at hm0; simp at hm0
    · injection e1 with e1
      rw [e1, add_plain, ← Nat.add_assoc, hc i' hi' j hj, hv]
  · intro u hu
    obtain ⟨y2, _, hy⟩ := fl_mem hu
    exact R.one y2 u hy
  · intro v' w' hown' hg _ hat
    have hbel : Below B w w' := (Below.refl B w).grown hg hbase (fun k hk => (World.ownsRow.lt hown k hk).1)
    have hlen' : (l ++ M).length = l.length + M.length := List.length_append
    rw [← fl_app] at hown'
    rw [← hlen'] at hown'
    obtain ⟨g, cap, rfl, _, _⟩ := World.ownsRow.form hown' (by rw [hlen']; omega)
    have := h g cap w' hown' hg hbel (by
      rcases hat with e1 | e1
      · left; rw [← e1]; rfl
      · right; simpa [Value.ownBlock] using e1)
    rwa [← hlen'] at this
/-- The same as one operation. -/
theorem op_rowsM_at (R : Ro P t e k by_ f) {o : Oper} {a : Act} {K : Act → World → Prop} {Q : Exit → Act → World → Prop} (s x : Operand)
    (ho : o.op = .call { callee := .builtin .append, args := #[s, x], argTypes := #[t, t] }) (n : Nat) (hs : a.eval s = .slice A n c) (hn : l.length = n) (hown : Ow e k f w B A c l)
    (M : List β) (m b c' : Nat) (hm : M.length = m) (hm0 : 0 < m) (hx : a.eval x = .slice (some ⟨b, 0, none⟩) m c') (hR : Rw k f w (some ⟨b, 0, none⟩) M)
    (hlen : n + m ≤ 1099511627776) (hbase : B ≤ w.heap.size) (s' : Nat) (hsum : n + m = s')
    (h : ∀ g2 c2 w', Ow e k f w' B (some ⟨g2, 0, none⟩) c2 (l ++ M) → w.grownBy w' (Value.slice A n c).ownBlock → Below B w w' → ((Value.slice A n c).ownBlock = some g2 ∨ g2 = w.heap.size) → K (a.put o.dst (.slice (some ⟨g2, 0, none⟩) s' c2)) w') : o.wp P a w K Q := by
  obtain ⟨i, z, hi1, hz, hsz, hby, hzc⟩ := R.hi
  subst hn; subst hsum; subst hm
  have hb8 : (l.length + M.length) * by_ ≤ 140737488355328 := Nat.le_trans (Nat.mul_le_mul hlen R.few) (by decide)
  obtain ⟨v', w', hr, hown', hg, _, hat⟩ := run_append_own_at (P := P) w B t o.type e i z k by_ R.ht hi1 hz hsz hby hzc R.k0 _ l.length (fl f l) hown ⟨b, 0, none⟩ M.length c' (fl f M) (fl_length R.fs M) (fun q u hu => by
    obtain ⟨i', j, hi', hj, rfl, hv⟩ := fl_all R.fs R.k0 M q u hu
    rcases hR with h0 | ⟨b2, o', e1, _, hc⟩
    · rw [h0] at hm0; simp at hm0
    · injection e1 with e1
      rw [e1, add_plain, ← Nat.add_assoc, hc i' hi' j hj, hv]) (fun u hu => by
    obtain ⟨y2, _, hy⟩ := fl_mem hu
    exact R.one y2 u hy) (by unfold maxLen; omega) hb8 hbase
  have hbel : Below B w w' := (Below.refl B w).grown hg hbase (fun k hk => (World.ownsRow.lt hown k hk).1)
  have hlen' : (l ++ M).length = l.length + M.length := List.length_append
  rw [← fl_app] at hown'
  rw [← hlen'] at hown'
  obtain ⟨g, cap, rfl, _, _⟩ := World.ownsRow.form hown' (by rw [hlen']; omega)
  have hk := h g cap w' hown' hg hbel (by
    rcases hat with e1 | e1
    · left; rw [← e1]; rfl
    · right; simpa [Value.ownBlock] using e1)
  unfold Oper.wp execOp
  simp only [ho, resolve, invoke, builtin, Sem.run_bind, Sem.run_pure, Result.andThen_ok, List.map_toArray, List.map_cons, List.map_nil, hs, hx, hr]
  rw [hlen']
  exact hk
end
end Go.Proofs.YtndamiocmdnenaaGreat

/- The document's own table of pairs: Part: its contract. (Begun in round 15, in a seat of the document's own table alone.) -/
namespace Go.Proofs.YtndamiocmdnenaaGreat
set_option linter.unusedVariables false
set_option maxRecDepth 100000
set_option linter.unusedSimpArgs false
open Go.RowKit

section
variable {W u u' : World} {H H' : List Nat} {rb : Nat} {t t' : Tp}
theorem pr_far {w : World} {g g' : Nat} {e e' : TypeId} {cs cs' : Array Value} (h : Bk w g e cs) (h' : Bk w g' e' cs') (hn : e ≠ e') : g ≠ g' := by
  intro x
  subst x
  have hh : w.heap[g]? = some (.cells cs e (0, 0)) := h
  have hh' : w.heap[g]? = some (.cells cs' e' (0, 0)) := h'
  rw [hh] at hh'
  injection hh' with hh'
  injection hh' with _ hh'
  exact hn hh'
theorem Ow.farR {β : Type} {e e' : TypeId} {k : Nat} {f : β → Array Value} {w : World} {B : Nat} {A : Option Addr} {c : Nat} {l : List β} (h : Ow e k f w B A c l) {g : Nat} {cs : Array Value} (hb : Bk w g e' cs) (hn : e ≠ e') (i : Nat) (v : Value) : Ow e k f (w.setCell ⟨g, i, none⟩ v) B A c l := by
  refine ⟨h.1, ?_⟩
  rcases h.2 with h0 | ⟨g2, cap, cur, hv, hg, hh, r⟩
  · exact .inl h0
  · exact .inr ⟨g2, cap, cur, hv, hg, (show Bk w g2 _ _ from hh).far (show g2 ≠ g from pr_far hh hb hn) _, r⟩
theorem Ow.low {β : Type} {e : TypeId} {k : Nat} {f : β → Array Value} {w : World} {B B' : Nat} {A : Option Addr} {c : Nat} {l : List β} (h : Ow e k f w B A c l) (hB : B' ≤ B) : Ow e k f w B' A c l := by
  refine ⟨h.1, ?_⟩
  rcases h.2 with h0 | ⟨g, cap, cur, hv, hg, r⟩
  · exact .inl h0
  · exact .inr ⟨g, cap, cur, hv, Nat.le_trans hB hg, r⟩
theorem part_take {l : List Pp} {i : Nat} {x : Pp} (h : l[i]? = some x) (id : Int) : partL (l.take (i + 1)) id = partL (l.take i) id ++ (if x.has id = true then [] else [x]) := by
  unfold partL
  rw [List.take_add_one, h, List.filter_append]
  congr 1
  cases hx : x.has id <;> simp [hx]
end
end Go.Proofs.YtndamiocmdnenaaGreat

/- One cell of a row turned. Nothing of the program is named here. -/
namespace Go.Proofs.YtndamiocmdnenaaGreat
set_option linter.unusedVariables false
set_option maxRecDepth 100000
set_option linter.unusedSimpArgs false
open Go.RowKit

theorem fl_set {β : Type} {k : Nat} {f : β → Array Value} (hf : ∀ x, (f x).size = k) (T : List β) (y y' : β) (j : Nat) (hj : j < k) (v : Value) (hv : f y' = (f y).setIfInBounds j v) : fl f (T ++ [y']) = (fl f (T ++ [y])).set (T.length * k + j) v := by
  rw [fl_app, fl_app, List.set_append_right _ _ (by rw [fl_length hf]; omega), fl_length hf, Nat.add_sub_cancel_left]
  simp [fl, hv]
theorem fl_upd {β : Type} {k : Nat} {f : β → Array Value} (hf : ∀ x, (f x).size = k) (T R : List β) (y y' : β) (j : Nat) (hj : j < k) (v : Value) (hv : f y' = (f y).setIfInBounds j v) : fl f (T ++ y' :: R) = (fl f (T ++ y :: R)).set (T.length * k + j) v := by
  have h1 := fl_set hf T y y' j hj v hv
  have e1 : T ++ y' :: R = (T ++ [y']) ++ R := by simp
  have e2 : T ++ y :: R = (T ++ [y]) ++ R := by simp
  rw [e1, e2, fl_app, fl_app f (T ++ [y]), h1, List.set_append_left]
  rw [fl_length hf, List.length_append, List.length_singleton, Nat.add_mul, Nat.one_mul]
  omega
/-- One cell of a row turned. -/
theorem Ow.upd {β : Type} {k : Nat} {f : β → Array Value} {e : TypeId} {u : World} {B g c : Nat} {T R : List β} {y : β} (hf : ∀ x, (f x).size = k) (h : Ow e k f u B (some ⟨g, 0, none⟩) c (T ++ y :: R)) (y' : β) (j : Nat) (hj : j < k) (v : Value) (hv : f y' = (f y).setIfInBounds j v) :
    Ow e k f (u.setCell ⟨g, T.length * k + j, none⟩ v) B (some ⟨g, 0, none⟩) c (T ++ y' :: R) := by
  have := (World.ownsRow.stored h (T.length * k + j) v).1
  unfold Ow
  rw [fl_upd hf T R y y' j hj v hv]
  simpa using this

end Go.Proofs.YtndamiocmdnenaaGreat

/- append of one row, with the place of the new slice, as one step of a region that draws. Nothing of the program is named here. -/
namespace Go.Proofs.YtndamiocmdnenaaGreat
set_option linter.unusedVariables false
set_option maxRecDepth 100000
set_option linter.unusedSimpArgs false
open Go.RowKit

section
variable {β : Type} {P : Program} {t e : TypeId} {k by_ : Nat} {f : β → Array Value} {w w' : World} {B : Nat} {A : Option Addr} {c : Nat} {l : List β}
/-- append of one row: where the new slice lies. -/
theorem op_rows_at (R : Ro P t e k by_ f) {o : Oper} {a : Act} {K : Act → World → Prop} {Q : Exit → Act → World → Prop} (s x : Operand)
    (ho : o.op = .call { callee := .builtin .append, args := #[s, x], argTypes := #[t, t] }) (n : Nat) (hs : a.eval s = .slice A n c) (hn : l.length = n) (hown : Ow e k f w B A c l)
    (y : β) (b c' : Nat) (hx : a.eval x = .slice (some ⟨b, 0, none⟩) 1 c') (hR : Rw k f w (some ⟨b, 0, none⟩) [y])
    (hlen : n + 1 ≤ 1099511627776) (hbase : B ≤ w.heap.size) (s' : Nat) (hsum : n + 1 = s')
    (h : ∀ g2 c2 w', Ow e k f w' B (some ⟨g2, 0, none⟩) c2 (l ++ [y]) → w.grownBy w' (Value.slice A n c).ownBlock → Below B w w' → ((Value.slice A n c).ownBlock = some g2 ∨ g2 = w.heap.size) → K (a.put o.dst (.slice (some ⟨g2, 0, none⟩) s' c2)) w') : o.wp P a w K Q := by
  obtain ⟨i, z, hi1, hz, hsz, hby, hzc⟩ := R.hi
  subst hn; subst hsum
  have hb8 : (l.length + 1) * by_ ≤ 140737488355328 := Nat.le_trans (Nat.mul_le_mul hlen R.few) (by decide)
  obtain ⟨v', w', hr, hown', hg, _, hat⟩ := run_append_own_at (P := P) w B t o.type e i z k by_ R.ht hi1 hz hsz hby hzc R.k0 _ l.length (fl f l) hown ⟨b, 0, none⟩ 1 c' (fl f [y]) (fl_length R.fs [y]) (fun q u hu => by
    obtain ⟨i', j, hi', hj, rfl, hv⟩ := fl_all R.fs R.k0 [y] q u hu
    rcases hR with h0 | ⟨b2, o', e1, _, hc⟩
    · cases h0
    · injection e1 with e1
      rw [e1, add_plain, ← Nat.add_assoc, hc i' hi' j hj, hv]) (fun u hu => by
    obtain ⟨y2, _, hy⟩ := fl_mem hu
    exact R.one y2 u hy) (by unfold maxLen; omega) hb8 hbase
  have hbel : Below B w w' := (Below.refl B w).grown hg hbase (fun k hk => (World.ownsRow.lt hown k hk).1)
  have hlen' : (l ++ [y]).length = l.length + 1 := List.length_append
  rw [← fl_app] at hown'
  rw [← hlen'] at hown'
  obtain ⟨g, cap, rfl, _, _⟩ := World.ownsRow.form hown' (by rw [hlen']; omega)
  have hk := h g cap w' hown' hg hbel (by
    rcases hat with e1 | e1
    · left; rw [← e1]; rfl
    · right; simpa [Value.ownBlock] using e1)
  unfold Oper.wp execOp
  simp only [ho, resolve, invoke, builtin, Sem.run_bind, Sem.run_pure, Result.andThen_ok, List.map_toArray, List.map_cons, List.map_nil, hs, hx, hr]
  rw [hlen']
  exact hk
theorem step_rows_at (R : Ro P t e k by_ f) {ops : Array Oper} {o : Oper} {a : Act} {K : Act → World → Prop} {Q : Exit → Act → World → Prop} {E : Prop} (hgd : o.guard = none) (s x : Operand)
    (ho : o.op = .call { callee := .builtin .append, args := #[s, x], argTypes := #[t, t] }) (n : Nat) (hs : a.eval s = .slice A n c) (hn : l.length = n) (hown : Ow e k f w B A c l)
    (y : β) (b c' : Nat) (hx : a.eval x = .slice (some ⟨b, 0, none⟩) 1 c') (hR : Rw k f w (some ⟨b, 0, none⟩) [y])
    (hlen : n + 1 ≤ 1099511627776) (hbase : B ≤ w.heap.size) (s' : Nat) (hsum : n + 1 = s')
    (h : ∀ g2 c2 w', Ow e k f w' B (some ⟨g2, 0, none⟩) c2 (l ++ [y]) → w.grownBy w' (Value.slice A n c).ownBlock → Below B w w' → ((Value.slice A n c).ownBlock = some g2 ∨ g2 = w.heap.size) → K (a.put o.dst (.slice (some ⟨g2, 0, none⟩) s' c2)) w') : if Region.wanted o (yielded ops a.tmps) = true then o.wp P a w K Q else E := by
  have hw : Region.wanted o (yielded ops a.tmps) = true := by simp [Region.wanted, hgd]
  rw [if_pos hw]
  exact op_rows_at R s x ho n hs hn hown y b c' hx hR hlen hbase s' hsum h
end
end Go.Proofs.YtndamiocmdnenaaGreat

/- The document's own table of connections: its memory; New, find, Addr, Has, Came, Waits, Room, Credit, Ended. (Written by gen_cdr.py.) -/
namespace Go.Proofs.YtndamiocmdnenaaGreat
set_option linter.unusedVariables false
set_option maxRecDepth 100000
set_option linter.unusedSimpArgs false
open Go.RowKit

/-- A connection's row: its number, what it has, its two rings. -/
structure Cdr where
  id : Int
  c : Cn
  x : Nat
  y : Nat
abbrev cdc (d : Cdr) : Array Value := #[.int .i64 d.id, .int .u32 d.c.ad, .pointer (some ⟨d.x, 0, none⟩), .pointer (some ⟨d.y, 0, none⟩), .int .i64 (d.c.cr : Int), .bool d.c.en]
theorem roCD : Ro Tryz.prog 52 64 6 48 cdc := ⟨Tryz.underlying52, (by
  obtain ⟨i, h1, h2, h3, h4⟩ := info_parts (show (Tryz.prog.info? 64).map (fun i => (i.zero, i.size, i.bytes)) = some (some (.agg #[.int .i64 0, .int .u32 0, .pointer none, .pointer none, .int .i64 0, .bool false]), 6, 48) by kernel_rfl)
  exact ⟨i, _, h1, h2, h3, h4, rfl⟩), by omega, fun _ => rfl, (fun x u hu => by simp at hu; rcases hu with rfl | rfl | rfl | rfl | rfl | rfl <;> rfl), by omega⟩
def cdl (L : List Cdr) : List (Int × Cn) := L.map (fun d => (d.id, d.c))
def rbs (L : List Cdr) : List Nat := L.flatMap (fun d => [d.x, d.y])
theorem rbs_app (L M : List Cdr) : rbs (L ++ M) = rbs L ++ rbs M := List.flatMap_append
theorem rbs_cons (d : Cdr) (L : List Cdr) : rbs (d :: L) = d.x :: d.y :: rbs L := rfl
theorem mem_rbs {L : List Cdr} {d : Cdr} (h : d ∈ L) : d.x ∈ rbs L ∧ d.y ∈ rbs L := ⟨List.mem_flatMap.2 ⟨d, h, by simp⟩, List.mem_flatMap.2 ⟨d, h, by simp⟩⟩
def rowB (A : Option Addr) : List Nat := (Value.slice A 0 0).ownBlock.toList
theorem rowB_mem {A : Option Addr} {n c g : Nat} : g ∈ rowB A ↔ (Value.slice A n c).ownBlock = some g := by
  unfold rowB
  rw [Option.mem_toList]
  cases A <;> exact Iff.rfl
/-- At s lies a ring: all of it in H, and away from F. -/
structure Rqd (u : World) (H F : List Nat) (s m : Nat) (q : List UInt8) : Prop where
  ex : ∃ A c, Rs u s m q A c ∧ ∀ a, A = some a → a.block ∈ H ∧ a.block ∉ F
  sH : s ∈ H
  sF : s ∉ F
section
variable {u u' : World} {H H' F F' L : List Nat} {s m : Nat} {q : List UInt8}
theorem Rqd.out (h : Rqd u H F s m q) (k : Ke L u u') (hL : ∀ y ∈ H, y ∉ L) : Rqd u' H F s m q := by
  obtain ⟨A, c, h1, h2⟩ := h.ex
  exact ⟨⟨A, c, h1.keB k (hL s h.sH) (fun a ha => hL _ (h2 a ha).1), h2⟩, h.sH, h.sF⟩
theorem Rqd.inF (h : Rqd u H F s m q) (k : Ke L u u') (hL : ∀ y ∈ L, y ∈ F) : Rqd u' H F s m q := by
  obtain ⟨A, c, h1, h2⟩ := h.ex
  exact ⟨⟨A, c, h1.keB k (fun hx => h.sF (hL s hx)) (fun a ha hx => (h2 a ha).2 (hL _ hx)), h2⟩, h.sH, h.sF⟩
theorem Rqd.mono (h : Rqd u H F s m q) (hH : ∀ y ∈ H, y ∈ H') (hF : ∀ y ∈ F', y ∈ F ∨ y ∉ H) : Rqd u H' F' s m q := by
  obtain ⟨A, c, h1, h2⟩ := h.ex
  refine ⟨⟨A, c, h1, fun a ha => ⟨hH _ (h2 a ha).1, fun hx => ?_⟩⟩, hH s h.sH, fun hx => ?_⟩
  · rcases hF _ hx with e | e
    · exact (h2 a ha).2 e
    · exact e (h2 a ha).1
  · rcases hF _ hx with e | e
    · exact h.sF e
    · exact e h.sH
theorem Rqd.off {g m2 : Nat} {q2 : List UInt8} (h : Rqd u H F s m q) (r : Rqd u H F g m2 q2) (hne : s ≠ g) (k : Ke [g] u u') : Rqd u' H F s m q := by
  obtain ⟨A, c, h1, h2⟩ := h.ex
  obtain ⟨A', c', r1, _⟩ := r.ex
  exact ⟨⟨A, c, h1.off r1.bk hne k, h2⟩, h.sH, h.sF⟩
end
/-- The document's table, its row named. -/
structure Cdx (W u : World) (H : List Nat) (rb : Nat) (t : Tc) (A : Option Addr) (c : Nat) (L : List Cdr) : Prop where
  e : cdl L = t.l
  bk : Bk u rb 54 #[.slice A L.length c, .int .i64 (t.la : Int)]
  ow : Ow 64 6 cdc u W.heap.size A c L
  ob : ∀ g ∈ rowB A, g ∈ H ∧ g ≠ rb
  rg : ∀ d ∈ L, Rqd u H (rb :: rowB A) d.x 512 d.c.q ∧ Rqd u H (rb :: rowB A) d.y 1024 d.c.w
  nd : (rbs L).Nodup
  rb : rb ∈ H
  l : Below W.heap.size W u
  lo : ∀ y ∈ H, W.heap.size ≤ y
  hi : ∀ y ∈ H, y < u.heap.size
/-- At rb lies the document's table, in the blocks H. -/
def Cdt (W u : World) (H : List Nat) (rb : Nat) (t : Tc) : Prop := ∃ A c L, Cdx W u H rb t A c L
section
variable {W u u' : World} {H H' : List Nat} {rb : Nat} {t t' : Tc} {A : Option Addr} {c : Nat} {L : List Cdr}
theorem Cdx.keO {K : List Nat} (h : Cdx W u H rb t A c L) (k : Ke K u u') (hK : ∀ y ∈ H, y ∉ K) (hb : Below W.heap.size W u') : Cdx W u' H rb t A c L :=
  ⟨h.e, h.bk.ke k (hK _ h.rb), h.ow.keR k (fun g hg => hK g (h.ob g (rowB_mem.2 hg)).1), h.ob, fun d hd => ⟨(h.rg d hd).1.out k hK, (h.rg d hd).2.out k hK⟩, h.nd, h.rb, hb, h.lo, fun y hy => Nat.lt_of_lt_of_le (h.hi y hy) k.size⟩
theorem Cdt.ke {K : List Nat} (h : Cdt W u H rb t) (k : Ke K u u') (hK : ∀ y ∈ H, y ∉ K) (hb : Below W.heap.size W u') : Cdt W u' H rb t := by
  obtain ⟨A, c, L, h1⟩ := h
  exact ⟨A, c, L, h1.keO k hK hb⟩
theorem Cdt.l (h : Cdt W u H rb t) : Below W.heap.size W u := by obtain ⟨A, c, L, h1⟩ := h; exact h1.l
theorem Cdt.hi (h : Cdt W u H rb t) : ∀ y ∈ H, y < u.heap.size := by obtain ⟨A, c, L, h1⟩ := h; exact h1.hi
theorem Cdt.lo (h : Cdt W u H rb t) : ∀ y ∈ H, W.heap.size ≤ y := by obtain ⟨A, c, L, h1⟩ := h; exact h1.lo
theorem Cdt.on (h : Cdt W u H rb t) (hb : Below u.heap.size u u') : Cdt W u' H rb t := h.ke (Ke.of hb) (fun _ _ hx => by cases hx) (h.l.trans (hb.mono h.l.size))
theorem Cdx.len (h : Cdx W u H rb t A c L) : L.length = t.l.length := by rw [← h.e]; exact (List.length_map _).symm
theorem Cdx.rw_ (h : Cdx W u H rb t A c L) : Rw 6 cdc u A L := Ow.rw_ (fun _ => rfl) h.ow
/-- One row's cells. -/
theorem row6c {w : World} {A : Option Addr} {l : List Cdr} (h : Rw 6 cdc w A l) (i : Nat) (hi : i < l.length) :
    ∃ b o d, A = some ⟨b, o, none⟩ ∧ l[i]? = some d ∧ ∀ u, Below w.heap.size w u → u.cell? ⟨b, o + i * 6, none⟩ = some (.int .i64 d.id) ∧ u.cell? ⟨b, o + i * 6 + 1, none⟩ = some (.int .u32 d.c.ad) ∧ u.cell? ⟨b, o + i * 6 + 2, none⟩ = some (.pointer (some ⟨d.x, 0, none⟩)) ∧ u.cell? ⟨b, o + i * 6 + 3, none⟩ = some (.pointer (some ⟨d.y, 0, none⟩)) ∧ u.cell? ⟨b, o + i * 6 + 4, none⟩ = some (.int .i64 (d.c.cr : Int)) ∧ u.cell? ⟨b, o + i * 6 + 5, none⟩ = some (.bool d.c.en) := by
  obtain ⟨b, o, x, h1, h2, h3⟩ := Rw.at_ h i hi
  exact ⟨b, o, x, h1, h2, fun u hb => ⟨h3 u hb 0 (by omega), h3 u hb 1 (by omega), h3 u hb 2 (by omega), h3 u hb 3 (by omega), h3 u hb 4 (by omega), h3 u hb 5 (by omega)⟩⟩
/-- Where a number's connection stands. -/
def fiN : List (Int × Cn) → Int → Option Nat
  | [], _ => none
  | p :: r, i => if p.1 = i then some 0 else (fiN r i).map (· + 1)
def fiC (t : Tc) (i : Int) : Int := match fiN t.l i with | none => -1 | some k => (k : Int)
theorem fiN_none {l : List (Int × Cn)} {i : Int} : fiN l i = none ↔ fnC l i = none := by
  induction l with
  | nil => simp [fiN, fnC]
  | cons p l ih =>
    rw [fn_cons]
    unfold fiN
    by_cases h : p.1 = i
    · rw [if_pos h, if_pos h]; simp
    · rw [if_neg h, if_neg h, Option.map_eq_none_iff]; exact ih
theorem fiN_some {l : List (Int × Cn)} {i : Int} {c : Cn} (h : fnC l i = some c) : ∃ k, fiN l i = some k ∧ l[k]? = some (i, c) := by
  induction l with
  | nil => cases h
  | cons p l ih =>
    rw [fn_cons] at h
    unfold fiN
    by_cases hp : p.1 = i
    · rw [if_pos hp] at h ⊢
      injection h with h
      exact ⟨0, rfl, by subst h; subst hp; rfl⟩
    · rw [if_neg hp] at h ⊢
      obtain ⟨k, k1, k2⟩ := ih h
      exact ⟨k + 1, by rw [k1]; rfl, k2⟩
theorem fiN_first : ∀ {l : List (Int × Cn)} {i : Int} {k : Nat} {p : Int × Cn}, l[k]? = some p → p.1 = i → (∀ j, j < k → ∀ x, l[j]? = some x → x.1 ≠ i) → fiN l i = some k
  | [], i, k, p, h, _, _ => by simp at h
  | q :: l, i, 0, p, h, hp, _ => by
    unfold fiN
    have : q = p := by simpa using h
    rw [if_pos (by rw [this]; exact hp)]
  | q :: l, i, k + 1, p, h, hp, hn => by
    unfold fiN
    rw [if_neg (hn 0 (by omega) q rfl), fiN_first (l := l) (k := k) (by simpa using h) hp (fun j hj x hx => hn (j + 1) (by omega) x (by simpa using hx))]
    rfl
theorem fiN_no {l : List (Int × Cn)} {i : Int} (h : ∀ (j : Nat) (x : Int × Cn), l[j]? = some x → x.1 ≠ i) : fiN l i = none := fiN_none.2 (fn_none.2 (fun p hp => by
  obtain ⟨j, hj, e⟩ := List.mem_iff_getElem.1 hp
  exact h j p (by rw [List.getElem?_eq_getElem hj, e])))
theorem fi_miss {t : Tc} {i : Int} (h : t.f i = none) : fiC t i = -1 := by unfold fiC; rw [fiN_none.2 h]
theorem fi_hit {t : Tc} {i : Int} {c : Cn} (h : t.f i = some c) : ∃ k : Nat, fiC t i = (k : Int) ∧ k < t.l.length ∧ t.l[k]? = some (i, c) := by
  obtain ⟨k, k1, k2⟩ := fiN_some h
  exact ⟨k, by unfold fiC; rw [k1], (List.getElem?_eq_some_iff.1 k2).1, k2⟩
set_option maxRecDepth 100000 in
set_option maxHeartbeats 1000000 in
theorem d_new (h : Below W.heap.size W u) : Calls Tryz.prog 6 #[] u fun e u' => ∃ H rb, e = .returned (.pointer (some ⟨rb, 0, none⟩)) ∧ Cdt W u' H rb tc0 ∧ Below u.heap.size u u' ∧ ∀ y ∈ H, u.heap.size ≤ y := by
  have HB := Lib.hid h
  have hs := h.size
  go_enter Tryz.func6, Tryz.ntmps6
  go_wp2
  go_ret
  have hb := (Below.refl u.heap.size u).alloc (Nat.le_refl _) (.cells #[.slice none 0 0, .int .i64 0] 54)
  exact ⟨[u.heap.size], u.heap.size, rfl, ⟨none, 0, [], rfl, Bk.new _ _ _, Ow.nil _ _, (fun g hg => by cases hg), (fun d hd => by cases hd), List.nodup_nil, by simp, HB.out.trans (hb.mono hs), (fun y hy => by rw [List.mem_singleton.1 hy]; exact hs), fun y hy => by rw [List.mem_singleton.1 hy, World.size_alloc]; omega⟩, hb, fun y hy => by rw [List.mem_singleton.1 hy]; exact Nat.le_refl _⟩
set_option maxRecDepth 100000 in
set_option maxHeartbeats 2000000 in
theorem d_find (h : Cdt W u H rb t) (hf : t.l.length ≤ 1000000) (id R : Int) (hR : fiC t id = R) :
    Calls Tryz.prog 70 #[.pointer (some ⟨rb, 0, none⟩), .int .i64 id] u fun e u' => e = .returned (.int .i64 R) ∧ u' = u := by
  obtain ⟨A, c, L, h1⟩ := h
  obtain ⟨n, hn⟩ : ∃ n, L.length = n := ⟨_, rfl⟩
  have hn6 : n ≤ 1000000 := by rw [← hn, h1.len]; exact hf
  have HR := Lib.hid h1.rw_
  have HN := Lib.hid hn
  have HE := Lib.hid hR
  have HL := Lib.hid h1.e
  have c0 : u.cell? ⟨rb, 0, none⟩ = some (.slice A n c) := by rw [← hn]; exact h1.bk.cell 0
  clear h1 hn hR hf
  go_enter Tryz.func70, Tryz.ntmps70
  go_wp2
  go_loopw [5] (fun v5 wr => ∃ i : Nat, i ≤ n ∧ v5 = .int .i64 (i : Int) ∧ Hid (∀ j, j < i → ∀ x, t.l[j]? = some x → x.1 ≠ id) ∧ wr = u) (fun v5 _ => n - (intOf v5).toNat)
  case atStart => exact ⟨0, by omega, rfl, Lib.hid (fun j hj => by omega), by first | rfl | trivial⟩
  case round =>
    obtain ⟨i, hi, rfl, H0, hwr⟩ := hrel
    subst hwr
    by_cases hi1 : i < n
    · have hi2 : (i : Int) < (n : Int) := by omega
      obtain ⟨b, o, d, rfl, hd, hc⟩ := row6c HR.out i (by rw [HN.out]; exact hi1)
      have k0 := (hc wr (Below.refl _ _)).1
      have HX := Lib.hid (show t.l[i]? = some (d.id, d.c) by rw [← HL.out]; show (L.map _)[i]? = _; rw [List.getElem?_map, hd]; rfl)
      obtain ⟨x, hx⟩ : ∃ x, d.id = x := ⟨_, rfl⟩
      rw [hx] at k0
      have HXX := Lib.hid hx
      clear hc hd hx
      obtain ⟨q, hq⟩ : ∃ q, (x == id) = q := ⟨_, rfl⟩
      have HQ := Lib.hid hq
      cases q with
      | true =>
        have HP := Lib.hid (show R = (i : Int) from by
          rw [← HE.out]
          unfold fiC
          rw [fiN_first HX.out (show d.id = id by rw [HXX.out]; simpa using HQ.out) H0.out])
        go_wp2
        go_ret
        exact ⟨by rw [HP.out]; rfl, by first | rfl | trivial⟩
      | false =>
        go_wp2
        go_roundw
        case rel =>
          refine ⟨i + 1, by omega, by go_num, Lib.hid (fun j hj y hy => ?_), by first | rfl | trivial⟩
          rcases Nat.lt_or_ge j i with e | e
          · exact H0.out j e y hy
          · obtain rfl : j = i := by omega
            rw [HX.out] at hy
            injection hy with hy
            subst hy
            show d.id ≠ id
            rw [HXX.out]
            have := HQ.out
            simpa using this
        case measure => simp [intOf] <;> omega
    · have hi2 : ¬ (i : Int) < (n : Int) := by omega
      have HP := Lib.hid (show R = -1 from by
        rw [← HE.out]
        unfold fiC
        rw [fiN_no (fun j y hy => H0.out j (by
          have h1 := (List.getElem?_eq_some_iff.1 hy).1
          rw [← HL.out] at h1
          have h2 : (cdl L).length = L.length := List.length_map _
          have := HN.out
          omega) y hy)])
      go_wp2
      go_ret
      exact ⟨by rw [HP.out]; rfl, by first | rfl | trivial⟩
/-- A number's connection: its row, and what lies in it. -/
structure Hc (W u : World) (H : List Nat) (rb : Nat) (t : Tc) (id : Int) (c : Cn) (k n cp b x y : Nat) : Prop where
  fi : fiC t id = (k : Int)
  lt : k < n
  ln : t.l.length = n
  cs : ∀ v, Ke [] u v → v.cell? ⟨rb, 0, none⟩ = some (.slice (some ⟨b, 0, none⟩) n cp) ∧ v.cell? ⟨b, k * 6 + 1, none⟩ = some (.int .u32 c.ad) ∧ v.cell? ⟨b, k * 6 + 2, none⟩ = some (.pointer (some ⟨x, 0, none⟩)) ∧ v.cell? ⟨b, k * 6 + 3, none⟩ = some (.pointer (some ⟨y, 0, none⟩)) ∧ v.cell? ⟨b, k * 6 + 4, none⟩ = some (.int .i64 (c.cr : Int)) ∧ v.cell? ⟨b, k * 6 + 5, none⟩ = some (.bool c.en)
  sp : ∃ T R d, Cdx W u H rb t (some ⟨b, 0, none⟩) cp (T ++ d :: R) ∧ T.length = k ∧ d.id = id ∧ d.c = c ∧ d.x = x ∧ d.y = y
theorem Cdt.hit (h : Cdt W u H rb t) {id : Int} {c : Cn} (hc : t.f id = some c) : ∃ k n cp b x y, Hc W u H rb t id c k n cp b x y := by
  obtain ⟨A, cp, L, h1⟩ := h
  obtain ⟨k, k1, k2, k3⟩ := fi_hit hc
  have hkL : k < L.length := by rw [h1.len]; exact k2
  obtain ⟨b, o, d, rfl, hd, hcell⟩ := row6c h1.rw_ k hkL
  have ed : (d.id, d.c) = (id, c) := by
    have : t.l[k]? = some (d.id, d.c) := by rw [← h1.e]; show (L.map _)[k]? = _; rw [List.getElem?_map, hd]; rfl
    rw [k3] at this
    injection this with this
    exact this.symm
  injection ed with e1 e2
  have ho : o = 0 := by
    rcases h1.ow.2 with ⟨hv, h0⟩ | ⟨g, cap, cur, hv, _⟩
    · omega
    · injection hv with hv1
      injection hv1 with hv1
      injection hv1
  subst ho
  have hsp : L = L.take k ++ d :: L.drop (k + 1) := by
    have := List.take_append_drop k L
    rw [List.drop_eq_getElem_cons hkL] at this
    rw [List.getElem?_eq_getElem hkL] at hd
    injection hd with hd
    rw [hd] at this
    exact this.symm
  refine ⟨k, L.length, cp, b, d.x, d.y, k1, hkL, h1.len.symm, fun v hv => ?_, L.take k, L.drop (k + 1), d, hsp ▸ h1, by rw [List.length_take]; omega, e1, e2, rfl, rfl⟩
  have hb : Below u.heap.size u v := hv.below (Nat.le_refl _) (fun _ h => by cases h)
  have hcv := hcell v hb
  rw [e1, e2] at hcv
  simp only [Nat.zero_add] at hcv
  exact ⟨(h1.bk.below hb h1.bk.lt).cell 0, hcv.2⟩
set_option maxRecDepth 100000 in
set_option maxHeartbeats 2000000 in
theorem d_addr (h : Cdt W u H rb t) (hf : t.l.length ≤ 1000000) (id : Int) (r : Int) (hE : adC t id = r) :
    Calls Tryz.prog 35 #[.pointer (some ⟨rb, 0, none⟩), .int .i64 id] u fun e u' => e = .returned (.int .u32 r) ∧ u' = u := by
  have HF := Lib.hid (d_find h hf id _ rfl)
  cases hc : t.f id with
  | none =>
    have HX := Lib.hid (show (.int .u32 r : Value) = .int .u32 0 by unfold adC at hE; rw [hc] at hE; rw [← hE]; try rfl)
    rw [HX.out]
    rw [fi_miss hc] at HF
    clear h hf hE HX hc
    go_enter Tryz.func35, Tryz.ntmps35
    go_wp2_with (go_at_call 70; (with_reducible refine (HF.out).mono ?_); rintro e u2 ⟨rfl, hu⟩; rw [hu]; clear hu)
    go_ret
    exact ⟨rfl, by first | rfl | trivial⟩
  | some c =>
    obtain ⟨k, n, cp, b, x, y, hh⟩ := h.hit hc
    obtain ⟨c0, c1, c2, c3, c4, c5⟩ := hh.cs u (Ke.refl _ _)
    have hk1 := hh.lt
    have hk2 : (k : Int) < (n : Int) := by omega
    have hn6 : n ≤ 1000000 := by rw [← hh.ln]; exact hf
    have hk3 : ¬ ((k : Int) < 0) := by omega
    have hk4 : (0 : Int) ≤ (k : Int) := by omega
    rw [hh.fi] at HF
    have HX := Lib.hid (show (.int .u32 r : Value) = .int .u32 c.ad by unfold adC at hE; rw [hc] at hE; rw [← hE]; try (rfl))
    rw [HX.out]
    clear h hf hE HX hc hh
    go_enter Tryz.func35, Tryz.ntmps35
    go_wp2_with (go_at_call 70; (with_reducible refine (HF.out).mono ?_); rintro e u2 ⟨rfl, hu⟩; rw [hu]; clear hu)
    go_ret
    exact ⟨rfl, by first | rfl | trivial⟩
set_option maxRecDepth 100000 in
set_option maxHeartbeats 2000000 in
theorem d_credit (h : Cdt W u H rb t) (hf : t.l.length ≤ 1000000) (id : Int) (r : Nat) (hE : crC t id = r) :
    Calls Tryz.prog 43 #[.pointer (some ⟨rb, 0, none⟩), .int .i64 id] u fun e u' => e = .returned (.int .i64 (r : Int)) ∧ u' = u := by
  have HF := Lib.hid (d_find h hf id _ rfl)
  cases hc : t.f id with
  | none =>
    have HX := Lib.hid (show (.int .i64 (r : Int) : Value) = .int .i64 0 by unfold crC at hE; rw [hc] at hE; rw [← hE]; try rfl)
    rw [HX.out]
    rw [fi_miss hc] at HF
    clear h hf hE HX hc
    go_enter Tryz.func43, Tryz.ntmps43
    go_wp2_with (go_at_call 70; (with_reducible refine (HF.out).mono ?_); rintro e u2 ⟨rfl, hu⟩; rw [hu]; clear hu)
    go_ret
    exact ⟨rfl, by first | rfl | trivial⟩
  | some c =>
    obtain ⟨k, n, cp, b, x, y, hh⟩ := h.hit hc
    obtain ⟨c0, c1, c2, c3, c4, c5⟩ := hh.cs u (Ke.refl _ _)
    have hk1 := hh.lt
    have hk2 : (k : Int) < (n : Int) := by omega
    have hn6 : n ≤ 1000000 := by rw [← hh.ln]; exact hf
    have hk3 : ¬ ((k : Int) < 0) := by omega
    have hk4 : (0 : Int) ≤ (k : Int) := by omega
    rw [hh.fi] at HF
    have HX := Lib.hid (show (.int .i64 (r : Int) : Value) = .int .i64 (c.cr : Int) by unfold crC at hE; rw [hc] at hE; rw [← hE]; try (rfl))
    rw [HX.out]
    clear h hf hE HX hc hh
    go_enter Tryz.func43, Tryz.ntmps43
    go_wp2_with (go_at_call 70; (with_reducible refine (HF.out).mono ?_); rintro e u2 ⟨rfl, hu⟩; rw [hu]; clear hu)
    go_ret
    exact ⟨rfl, by first | rfl | trivial⟩
set_option maxRecDepth 100000 in
set_option maxHeartbeats 2000000 in
theorem d_has (h : Cdt W u H rb t) (hf : t.l.length ≤ 1000000) (id : Int) (r : Bool) (hE : hsC t id = r) :
    Calls Tryz.prog 34 #[.pointer (some ⟨rb, 0, none⟩), .int .i64 id] u fun e u' => e = .returned (.bool r) ∧ u' = u := by
  have HF := Lib.hid (d_find h hf id _ rfl)
  cases hc : t.f id with
  | none =>
    have HX := Lib.hid (show (.bool r : Value) = .bool false by unfold hsC at hE; rw [hc] at hE; rw [← hE]; try rfl)
    rw [HX.out]
    rw [fi_miss hc] at HF
    clear h hf hE HX hc
    go_enter Tryz.func34, Tryz.ntmps34
    go_wp2_with (go_at_call 70; (with_reducible refine (HF.out).mono ?_); rintro e u2 ⟨rfl, hu⟩; rw [hu]; clear hu)
    go_ret
    exact ⟨rfl, by first | rfl | trivial⟩
  | some c =>
    obtain ⟨k, n, cp, b, x, y, hh⟩ := h.hit hc
    obtain ⟨c0, c1, c2, c3, c4, c5⟩ := hh.cs u (Ke.refl _ _)
    have hk1 := hh.lt
    have hk2 : (k : Int) < (n : Int) := by omega
    have hn6 : n ≤ 1000000 := by rw [← hh.ln]; exact hf
    have hk3 : ¬ ((k : Int) < 0) := by omega
    have hk4 : (0 : Int) ≤ (k : Int) := by omega
    rw [hh.fi] at HF
    have HX := Lib.hid (show (.bool r : Value) = .bool true by unfold hsC at hE; rw [hc] at hE; rw [← hE]; try (rfl))
    rw [HX.out]
    clear h hf hE HX hc hh
    go_enter Tryz.func34, Tryz.ntmps34
    go_wp2_with (go_at_call 70; (with_reducible refine (HF.out).mono ?_); rintro e u2 ⟨rfl, hu⟩; rw [hu]; clear hu)
    go_ret
    exact ⟨rfl, by first | rfl | trivial⟩
set_option maxRecDepth 100000 in
set_option maxHeartbeats 2000000 in
theorem d_ended (h : Cdt W u H rb t) (hf : t.l.length ≤ 1000000) (id : Int) (r : Bool) (hE : enC t id = r) :
    Calls Tryz.prog 44 #[.pointer (some ⟨rb, 0, none⟩), .int .i64 id] u fun e u' => e = .returned (.bool r) ∧ u' = u := by
  have HF := Lib.hid (d_find h hf id _ rfl)
  cases hc : t.f id with
  | none =>
    have HX := Lib.hid (show (.bool r : Value) = .bool false by unfold enC at hE; rw [hc] at hE; rw [← hE]; try rfl)
    rw [HX.out]
    rw [fi_miss hc] at HF
    clear h hf hE HX hc
    go_enter Tryz.func44, Tryz.ntmps44
    go_wp2_with (go_at_call 70; (with_reducible refine (HF.out).mono ?_); rintro e u2 ⟨rfl, hu⟩; rw [hu]; clear hu)
    go_ret
    exact ⟨rfl, by first | rfl | trivial⟩
  | some c =>
    obtain ⟨k, n, cp, b, x, y, hh⟩ := h.hit hc
    obtain ⟨c0, c1, c2, c3, c4, c5⟩ := hh.cs u (Ke.refl _ _)
    have hk1 := hh.lt
    have hk2 : (k : Int) < (n : Int) := by omega
    have hn6 : n ≤ 1000000 := by rw [← hh.ln]; exact hf
    have hk3 : ¬ ((k : Int) < 0) := by omega
    have hk4 : (0 : Int) ≤ (k : Int) := by omega
    rw [hh.fi] at HF
    have HX := Lib.hid (show (.bool r : Value) = .bool c.en by unfold enC at hE; rw [hc] at hE; rw [← hE]; try (rfl))
    rw [HX.out]
    clear h hf hE HX hc hh
    go_enter Tryz.func44, Tryz.ntmps44
    go_wp2_with (go_at_call 70; (with_reducible refine (HF.out).mono ?_); rintro e u2 ⟨rfl, hu⟩; rw [hu]; clear hu)
    go_ret
    exact ⟨rfl, by first | rfl | trivial⟩
set_option maxRecDepth 100000 in
set_option maxHeartbeats 2000000 in
theorem d_came (h : Cdt W u H rb t) (hf : t.l.length ≤ 1000000) (id : Int) (r : Nat) (hE : caC t id = r) :
    Calls Tryz.prog 37 #[.pointer (some ⟨rb, 0, none⟩), .int .i64 id] u fun e u' => e = .returned (.int .i64 (r : Int)) ∧ u' = u := by
  have HF := Lib.hid (d_find h hf id _ rfl)
  cases hc : t.f id with
  | none =>
    have HX := Lib.hid (show (.int .i64 (r : Int) : Value) = .int .i64 0 by unfold caC at hE; rw [hc] at hE; rw [← hE]; try rfl)
    rw [HX.out]
    rw [fi_miss hc] at HF
    clear h hf hE HX hc
    go_enter Tryz.func37, Tryz.ntmps37
    go_wp2_with (go_at_call 70; (with_reducible refine (HF.out).mono ?_); rintro e u2 ⟨rfl, hu⟩; rw [hu]; clear hu)
    go_ret
    exact ⟨rfl, by first | rfl | trivial⟩
  | some c =>
    obtain ⟨k, n, cp, b, x, y, hh⟩ := h.hit hc
    obtain ⟨c0, c1, c2, c3, c4, c5⟩ := hh.cs u (Ke.refl _ _)
    have hk1 := hh.lt
    have hk2 : (k : Int) < (n : Int) := by omega
    have hn6 : n ≤ 1000000 := by rw [← hh.ln]; exact hf
    have hk3 : ¬ ((k : Int) < 0) := by omega
    have hk4 : (0 : Int) ≤ (k : Int) := by omega
    rw [hh.fi] at HF
    obtain ⟨T, R, d, hx, _, _, rfl, rfl, rfl⟩ := hh.sp
    obtain ⟨Aq, cq, hrs, _⟩ := (hx.rg d (by simp)).1.ex
    have r0 := (ref_cells hrs.bk).1
    have hfit := hrs.fit
    obtain ⟨lq, hlq⟩ : ∃ lq, d.c.q.length = lq := ⟨_, rfl⟩
    rw [hlq] at r0 hfit
    have HX := Lib.hid (show (.int .i64 (r : Int) : Value) = .int .i64 (lq : Int) by unfold caC at hE; rw [hc] at hE; rw [← hE]; try (show Value.int .i64 ((d.c.q.length : Nat) : Int) = _; rw [hlq]))
    rw [HX.out]
    clear h hf hE HX hc hh
    go_enter Tryz.func37, Tryz.ntmps37
    go_wp2_with (go_at_call 70; (with_reducible refine (HF.out).mono ?_); rintro e u2 ⟨rfl, hu⟩; rw [hu]; clear hu)
    go_ret
    exact ⟨rfl, by first | rfl | trivial⟩
set_option maxRecDepth 100000 in
set_option maxHeartbeats 2000000 in
theorem d_waits (h : Cdt W u H rb t) (hf : t.l.length ≤ 1000000) (id : Int) (r : Nat) (hE : waC t id = r) :
    Calls Tryz.prog 39 #[.pointer (some ⟨rb, 0, none⟩), .int .i64 id] u fun e u' => e = .returned (.int .i64 (r : Int)) ∧ u' = u := by
  have HF := Lib.hid (d_find h hf id _ rfl)
  cases hc : t.f id with
  | none =>
    have HX := Lib.hid (show (.int .i64 (r : Int) : Value) = .int .i64 0 by unfold waC at hE; rw [hc] at hE; rw [← hE]; try rfl)
    rw [HX.out]
    rw [fi_miss hc] at HF
    clear h hf hE HX hc
    go_enter Tryz.func39, Tryz.ntmps39
    go_wp2_with (go_at_call 70; (with_reducible refine (HF.out).mono ?_); rintro e u2 ⟨rfl, hu⟩; rw [hu]; clear hu)
    go_ret
    exact ⟨rfl, by first | rfl | trivial⟩
  | some c =>
    obtain ⟨k, n, cp, b, x, y, hh⟩ := h.hit hc
    obtain ⟨c0, c1, c2, c3, c4, c5⟩ := hh.cs u (Ke.refl _ _)
    have hk1 := hh.lt
    have hk2 : (k : Int) < (n : Int) := by omega
    have hn6 : n ≤ 1000000 := by rw [← hh.ln]; exact hf
    have hk3 : ¬ ((k : Int) < 0) := by omega
    have hk4 : (0 : Int) ≤ (k : Int) := by omega
    rw [hh.fi] at HF
    obtain ⟨T, R, d, hx, _, _, rfl, rfl, rfl⟩ := hh.sp
    obtain ⟨Aq, cq, hrs, _⟩ := (hx.rg d (by simp)).2.ex
    have r0 := (ref_cells hrs.bk).1
    have hfit := hrs.fit
    obtain ⟨lq, hlq⟩ : ∃ lq, d.c.w.length = lq := ⟨_, rfl⟩
    rw [hlq] at r0 hfit
    have HX := Lib.hid (show (.int .i64 (r : Int) : Value) = .int .i64 (lq : Int) by unfold waC at hE; rw [hc] at hE; rw [← hE]; try (show Value.int .i64 ((d.c.w.length : Nat) : Int) = _; rw [hlq]))
    rw [HX.out]
    clear h hf hE HX hc hh
    go_enter Tryz.func39, Tryz.ntmps39
    go_wp2_with (go_at_call 70; (with_reducible refine (HF.out).mono ?_); rintro e u2 ⟨rfl, hu⟩; rw [hu]; clear hu)
    go_ret
    exact ⟨rfl, by first | rfl | trivial⟩
set_option maxRecDepth 100000 in
set_option maxHeartbeats 2000000 in
theorem d_room (h : Cdt W u H rb t) (hf : t.l.length ≤ 1000000) (id : Int) (r : Nat) (hE : roC t id = r) :
    Calls Tryz.prog 41 #[.pointer (some ⟨rb, 0, none⟩), .int .i64 id] u fun e u' => e = .returned (.int .i64 (r : Int)) ∧ u' = u := by
  have HF := Lib.hid (d_find h hf id _ rfl)
  cases hc : t.f id with
  | none =>
    have HX := Lib.hid (show (.int .i64 (r : Int) : Value) = .int .i64 0 by unfold roC at hE; rw [hc] at hE; rw [← hE]; try rfl)
    rw [HX.out]
    rw [fi_miss hc] at HF
    clear h hf hE HX hc
    go_enter Tryz.func41, Tryz.ntmps41
    go_wp2_with (go_at_call 70; (with_reducible refine (HF.out).mono ?_); rintro e u2 ⟨rfl, hu⟩; rw [hu]; clear hu)
    go_ret
    exact ⟨rfl, by first | rfl | trivial⟩
  | some c =>
    obtain ⟨k, n, cp, b, x, y, hh⟩ := h.hit hc
    obtain ⟨c0, c1, c2, c3, c4, c5⟩ := hh.cs u (Ke.refl _ _)
    have hk1 := hh.lt
    have hk2 : (k : Int) < (n : Int) := by omega
    have hn6 : n ≤ 1000000 := by rw [← hh.ln]; exact hf
    have hk3 : ¬ ((k : Int) < 0) := by omega
    have hk4 : (0 : Int) ≤ (k : Int) := by omega
    rw [hh.fi] at HF
    obtain ⟨T, R, d, hx, _, _, rfl, rfl, rfl⟩ := hh.sp
    obtain ⟨Aq, cq, hrs, _⟩ := (hx.rg d (by simp)).2.ex
    have r0 := (ref_cells hrs.bk).1
    have hfit := hrs.fit
    obtain ⟨lq, hlq⟩ : ∃ lq, d.c.w.length = lq := ⟨_, rfl⟩
    rw [hlq] at r0 hfit
    obtain ⟨ro, hro⟩ : ∃ ro, 1024 - lq = ro := ⟨_, rfl⟩
    have hwr := (iwrap ((1024 : Int) - (lq : Int)) ro (by omega) (by omega)).1
    have HX := Lib.hid (show (.int .i64 (r : Int) : Value) = .int .i64 (ro : Int) by unfold roC at hE; rw [hc] at hE; rw [← hE]; try (show Value.int .i64 ((1024 - d.c.w.length : Nat) : Int) = _; rw [hlq, hro]))
    rw [HX.out]
    clear h hf hE HX hc hh
    go_enter Tryz.func41, Tryz.ntmps41
    go_wp2_with (go_at_call 70; (with_reducible refine (HF.out).mono ?_); rintro e u2 ⟨rfl, hu⟩; rw [hu]; clear hu)
    go_ret
    exact ⟨rfl, by first | rfl | trivial⟩
end
end Go.Proofs.YtndamiocmdnenaaGreat
