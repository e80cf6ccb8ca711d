/- Base, PrM, Region, Tail, Open, DigMath, OrdMath, ConvR, Bytes: texts of this seat, one behind the other. -/
import Derived.WalkKit
import Derived.WalkSpells
import Derived.WalkLawsBesides
import Derived.Lib.Hide
import Derived.Handy
import Derived.Laws.BytesArg
import Derived.Deep.RegionHeld3
import Derived.Test.YtinjldjpncijjaaRows
import Derived.ProofKit
import Derived.OpenShut
import Derived.ShutString
import Derived.ChangeOld
import Derived.Below
import Derived.SliceStrings
import Derived.Lib.AppendStr
import Derived.Laws.AppendOwnNone
import Derived.Lib.SlBytesConst
import Derived.Deep.AppendLies
/- Words for memory that all texts of this seat use: a block that is known whole, bytes that a slice reads as. Nothing of the program is named here. -/
namespace Go.Proofs.Ytinjldjpncijjaa
set_option linter.unusedVariables false
set_option maxRecDepth 100000
set_option linter.unusedSimpArgs false
open Go.RowKit

/-- One byte as a value. -/
abbrev u8 (c : UInt8) : Value := .int .u8 (c.toNat : Int)

/-- Block g is the cells cs of type t, none of them frozen. -/
def Bk (w : World) (g : Nat) (t : TypeId) (cs : Array Value) : Prop := w.heap[g]? = some (.cells cs t (0, 0))

theorem Bk.lt {w : World} {g : Nat} {t : TypeId} {cs : Array Value} (h : Bk w g t cs) : g < w.heap.size := lt_of_block h
theorem Bk.cell {w : World} {g : Nat} {t : TypeId} {cs : Array Value} (h : Bk w g t cs) (i : Nat) : w.cell? ⟨g, i, none⟩ = cs[i]? := cell_of_row w g i cs t (0, 0) h
theorem Bk.frozen {w : World} {g : Nat} {t : TypeId} {cs : Array Value} (h : Bk w g t cs) (i : Nat) : w.frozen? ⟨g, i, none⟩ = false := frozen_of_row w g i cs t h
theorem Bk.new (w : World) (t : TypeId) (cs : Array Value) : Bk (w.alloc (.cells cs t)) w.heap.size t cs := heap_alloc_new w _
theorem Bk.here {w : World} {t : TypeId} {cs : Array Value} {n : Nat} (h : n = w.heap.size) : Bk (w.alloc (.cells cs t)) n t cs := by subst h; exact Bk.new w t cs
theorem Bk.drewN {w : World} {g : Nat} {t : TypeId} {cs : Array Value} (h : Bk w g t cs) (n : Nat) : Bk (w.drewN n) g t cs := h
theorem Bk.drew {w : World} {g : Nat} {t : TypeId} {cs : Array Value} (h : Bk w g t cs) : Bk w.drew g t cs := h
theorem Bk.alloc {w : World} {g : Nat} {t : TypeId} {cs : Array Value} (h : Bk w g t cs) (o : Obj) : Bk (w.alloc o) g t cs := (Below.heap_alloc w o g h.lt).trans h
theorem Bk.set {w : World} {g : Nat} {t : TypeId} {cs : Array Value} (h : Bk w g t cs) (i : Nat) (u : Value) : Bk (w.setCell ⟨g, i, none⟩ u) g t (cs.setIfInBounds i u) :=
  heap_setCell_same w g i cs t u h
theorem Bk.far {w : World} {g : Nat} {t : TypeId} {cs : Array Value} (h : Bk w g t cs) {p : Addr} (hp : g ≠ p.block) (u : Value) : Bk (w.setCell p u) g t cs := (heap_setCell_other w p g u hp).trans h
theorem Bk.below {w w' : World} {B g : Nat} {t : TypeId} {cs : Array Value} (h : Bk w g t cs) (hb : Below B w w') (hg : g < B) : Bk w' g t cs := (hb.block g hg).trans h

/-- make([]byte, n): the world behind it written out. -/
theorem mk_bytes {P : Program} (w : World) (t e : TypeId) (ht : P.underlying t = some (.slice e)) (hi : (P.info? e).map (fun i => (i.zero, i.size, i.bytes)) = some (some (.int .u8 0), 1, 1)) (n : Nat) (hn : n ≤ 140737488355328) (cs : Array Value) (hcs : cs = Array.replicate n (.int .u8 0)) (kl kc : IntKind := .i64) :
    (Instr.makeSlice t (.int kl (n : Int)) (.int kc (n : Int))).run P w = .ok (.slice (some ⟨w.heap.size, 0, none⟩) n n) (w.alloc (.cells cs e)) := by
  obtain ⟨i, hi1, hz, hs, hb⟩ := info_parts hi
  have h := run_make (P := P) w t e i (.int .u8 0) ht hi1 hz kl kc n n (by omega) (by omega) (by rw [hb]; omega) (by omega)
  rw [h]
  have e1 : madeCells #[Value.int .u8 0] n = cs := by
    rw [hcs]; apply Array.ext'; rw [toList_madeCells_one]; simp
  simp [hs, Value.cells, e1]

/-- Bytes as cells. -/
def bcells (l : List UInt8) : Array Value := (l.map u8).toArray
theorem bcells_size (l : List UInt8) : (bcells l).size = l.length := by simp [bcells]
theorem bcells_at (l : List UInt8) (i : Nat) (h : i < l.length) : (bcells l)[i]? = some (.int .u8 ((l[i]).toNat : Int)) := by simp [bcells, h]

/-- The slice at A reads as the bytes l, and lies below block B. -/
def Rb (w : World) (B : Nat) (A : Option Addr) (l : List UInt8) : Prop :=
  l = [] ∨ ∃ b o, A = some ⟨b, o, none⟩ ∧ b < B ∧ ∀ i, (h : i < l.length) → w.cell? ⟨b, o + i, none⟩ = some (.int .u8 ((l[i]).toNat : Int))

theorem Rb.nil (w : World) (B : Nat) (A : Option Addr) : Rb w B A [] := .inl rfl
theorem Rb.below {w w' : World} {B B' : Nat} {A : Option Addr} {l : List UInt8} (h : Rb w B A l) (hb : Below B' w w') (hB : B ≤ B') : Rb w' B A l := by
  rcases h with h | ⟨b, o, e, hlt, hc⟩
  · exact .inl h
  · exact .inr ⟨b, o, e, hlt, fun i hi => (hb.cell (p := ⟨b, o + i, none⟩) (by show b < B'; omega)).trans (hc i hi)⟩
theorem Rb.more {w : World} {B B' : Nat} {A : Option Addr} {l : List UInt8} (h : Rb w B A l) (hB : B ≤ B') : Rb w B' A l := by
  rcases h with h | ⟨b, o, e, hlt, hc⟩
  · exact .inl h
  · exact .inr ⟨b, o, e, by omega, hc⟩
theorem Rb.bk {w : World} {g : Nat} {t : TypeId} {l : List UInt8} (h : Bk w g t (bcells l)) : Rb w (g + 1) (some ⟨g, 0, none⟩) l :=
  .inr ⟨g, 0, rfl, by omega, fun i hi => by rw [h.cell, Nat.zero_add, bcells_at l i hi]⟩
theorem Rb.new (w : World) (t : TypeId) (l : List UInt8) : Rb (w.alloc (.cells (bcells l) t)) (w.heap.size + 1) (some ⟨w.heap.size, 0, none⟩) l := Rb.bk (Bk.new w t _)

theorem strOfNums_u8 (l : List UInt8) : strOfNums (l.map fun c => (c.toNat : Int)) = ⟨l.toArray⟩ := by
  have h := strOfNums_data (l.map fun c => (c.toNat : Int))
  have e : (strOfNums (l.map fun c => (c.toNat : Int))).data = l.toArray := by
    apply Array.ext'
    rw [h, List.map_map]
    have e0 : ((fun n : Int => UInt8.ofNat n.toNat) ∘ fun c : UInt8 => (c.toNat : Int)) = id := by funext c; simp
    rw [e0, List.map_id]
  cases hs : strOfNums (l.map fun c => (c.toNat : Int)) with
  | mk d => rw [hs] at e; simp at e; rw [e]

/-- string(b). -/
theorem str_of {P : Program} {w : World} {B : Nat} {A : Option Addr} {l : List UInt8} (h : Rb w B A l) (src e dst : TypeId) (hs : P.underlying src = some (.slice e)) (he : P.underlying e = some (.int .u8)) (hd : P.underlying dst = some .string) (n cap : Nat) (hn : l.length = n) :
    (convert src dst (.slice A n cap)).run P w = .ok (.string ⟨l.toArray⟩) w := by
  subst hn
  by_cases h0 : l = []
  · subst h0
    cases A with
    | none => exact run_convert_bytes_nil w src e hs he 0 cap dst hd
    | some a =>
      rw [run_convert_bytes_string w src dst e _ _ _ hs he hd]
      have hl := run_loadCells_list (P := P) w a [] (fun j v hj => by simp at hj)
      exact (run_bytesToString (P := P) w a 0 cap [] (by simpa using hl)).trans rfl
  · rcases h with h | ⟨b, o, rfl, _, hc⟩
    · exact absurd h h0
    · have := run_convert_bytes_arg (P := P) w src e hs he b o l.length cap (l.map fun c => (c.toNat : Int)) (by simp) (fun i hi => by
        rw [hc i hi]; simp [List.getD, hi]) dst hd
      rw [this, strOfNums_u8]

end Go.Proofs.Ytinjldjpncijjaa

/- Pairs: what the document asks, as Lean functions. (Begun in round 15, ahead of the landing: nothing of the program is named here.) -/
namespace Go.Proofs.Ytinjldjpncijjaa
set_option linter.unusedVariables false
set_option maxRecDepth 100000
set_option linter.unusedSimpArgs false

/-- A pair. -/
structure Pp where
  v : Int
  c : Int
deriving DecidableEq
/-- A table: its pairs by rising visitors, who was ever in one. -/
structure Tp where
  l : List Pp
  ev : List Int
def Pp.has (p : Pp) (id : Int) : Bool := p.v == id || p.c == id
def Pp.ids (p : Pp) : List Int := [p.v, p.c]
def insP (p : Pp) : List Pp → List Pp
  | [] => [p]
  | a :: r => if p.v < a.v then p :: a :: r else a :: insP p r
def joinP (t : Tp) (v c : Int) : Int × Tp :=
  if v < 1 ∨ c < 1 ∨ v = c then (1, t) else if v ∈ t.ev ∨ c ∈ t.ev then (4, t) else (0, ⟨insP ⟨v, c⟩ t.l, t.ev ++ [v, c]⟩)
def othP (l : List Pp) (id : Int) : Int × Bool :=
  match l.find? (fun p => p.has id) with
  | none => (0, false)
  | some p => (if p.v = id then p.c else p.v, true)
def partL (l : List Pp) (id : Int) : List Pp := l.filter fun p => !p.has id
def partP (t : Tp) (id : Int) : (Int × Bool) × Tp := (othP t.l id, ⟨partL t.l id, t.ev⟩)
theorem has_iff {p : Pp} {id : Int} : p.has id = true ↔ id ∈ p.ids := by
  unfold Pp.has Pp.ids
  simp only [Bool.or_eq_true, beq_iff_eq, List.mem_cons, List.not_mem_nil, or_false]
  constructor
  · rintro (h | h)
    · exact .inl h.symm
    · exact .inr h.symm
  · rintro (h | h)
    · exact .inl h.symm
    · exact .inr h.symm
def idsL (l : List Pp) : List Int := l.flatMap Pp.ids
theorem ids_iff {l : List Pp} {id : Int} : id ∈ idsL l ↔ ∃ p ∈ l, p.has id = true := by
  unfold idsL
  rw [List.mem_flatMap]
  constructor
  · rintro ⟨p, hp, h⟩; exact ⟨p, hp, has_iff.2 h⟩
  · rintro ⟨p, hp, h⟩; exact ⟨p, hp, has_iff.1 h⟩
/-- A table that is right. -/
structure Gp (t : Tp) : Prop where
  up : t.l.Pairwise (fun a b => a.v < b.v)
  nd : (idsL t.l).Nodup
  ev : ∀ x ∈ idsL t.l, x ∈ t.ev
  pos : ∀ x ∈ t.ev, 1 ≤ x
theorem gp_nil : Gp ⟨[], []⟩ := ⟨List.Pairwise.nil, List.nodup_nil, fun x h => (by cases h), fun x h => (by cases h)⟩
theorem ins_mem {p : Pp} : ∀ {l : List Pp} {x : Pp}, x ∈ insP p l ↔ x = p ∨ x ∈ l
  | [], x => by simp [insP]
  | a :: r, x => by
    unfold insP
    split
    · simp
    · rw [List.mem_cons, ins_mem (l := r), List.mem_cons]
      constructor
      · rintro (h | h | h)
        · exact .inr (.inl h)
        · exact .inl h
        · exact .inr (.inr h)
      · rintro (h | h | h)
        · exact .inr (.inl h)
        · exact .inl h
        · exact .inr (.inr h)
theorem ins_perm (p : Pp) : ∀ l : List Pp, (insP p l).Perm (p :: l)
  | [] => List.Perm.refl _
  | a :: r => by
    unfold insP
    split
    · exact List.Perm.refl _
    · exact ((ins_perm p r).cons a).trans (List.Perm.swap p a r)
theorem ins_up {p : Pp} : ∀ {l : List Pp}, l.Pairwise (fun a b => a.v < b.v) → (∀ a ∈ l, a.v ≠ p.v) → (insP p l).Pairwise (fun a b => a.v < b.v)
  | [], _, _ => by simp [insP]
  | a :: r, h, hn => by
    obtain ⟨h1, h2⟩ := List.pairwise_cons.1 h
    unfold insP
    split
    · rename_i hlt
      refine List.pairwise_cons.2 ⟨fun b hb => ?_, h⟩
      rcases List.mem_cons.1 hb with rfl | hb
      · exact hlt
      · exact Int.lt_trans hlt (h1 b hb)
    · rename_i hlt
      refine List.pairwise_cons.2 ⟨fun b hb => ?_, ins_up h2 (fun x hx => hn x (List.mem_cons_of_mem _ hx))⟩
      rcases ins_mem.1 hb with rfl | hb
      · have := hn a (List.mem_cons_self ..)
        omega
      · exact h1 b hb
theorem ids_perm {l m : List Pp} (h : l.Perm m) : (idsL l).Perm (idsL m) := List.Perm.flatMap_right _ h
theorem gp_join {t : Tp} (h : Gp t) (v c : Int) : Gp (joinP t v c).2 := by
  unfold joinP
  split
  · exact h
  · rename_i h1
    split
    · exact h
    · rename_i h2
      have hp := ids_perm (ins_perm ⟨v, c⟩ t.l)
      refine ⟨ins_up h.up fun a ha e => h2 (.inl (h.ev v (ids_iff.2 ⟨a, ha, by unfold Pp.has; simp only at e; rw [e]; simp⟩))), ?_, fun x hx => ?_, fun x hx => ?_⟩
      · rw [hp.nodup_iff]
        show (v :: c :: idsL t.l).Nodup
        refine List.nodup_cons.2 ⟨fun hm => ?_, List.nodup_cons.2 ⟨fun hm => h2 (.inr (h.ev c hm)), h.nd⟩⟩
        rcases List.mem_cons.1 hm with e | hm
        · exact h1 (.inr (.inr e))
        · exact h2 (.inl (h.ev v hm))
      · have hx2 : x ∈ v :: c :: idsL t.l := hp.mem_iff.1 hx
        show x ∈ t.ev ++ [v, c]
        rw [List.mem_append]
        rcases List.mem_cons.1 hx2 with rfl | hx2
        · exact .inr (by simp)
        · rcases List.mem_cons.1 hx2 with rfl | hx2
          · exact .inr (by simp)
          · exact .inl (h.ev x hx2)
      · have hx2 : x ∈ t.ev ++ [v, c] := hx
        rcases List.mem_append.1 hx2 with hx2 | hx2
        · exact h.pos x hx2
        · simp only [List.mem_cons, List.not_mem_nil, or_false] at hx2
          rcases hx2 with rfl | rfl <;> omega
theorem ids_sub {l m : List Pp} (h : l.Sublist m) : (idsL l).Sublist (idsL m) := by
  induction h with
  | slnil => exact List.Sublist.refl _
  | cons a _ ih => exact ih.trans (List.sublist_append_right _ _)
  | cons_cons a _ ih => exact List.Sublist.append (List.Sublist.refl _) ih
theorem part_sub (l : List Pp) (id : Int) : (partL l id).Sublist l := List.filter_sublist
theorem gp_part {t : Tp} (h : Gp t) (id : Int) : Gp (partP t id).2 :=
  ⟨h.up.sublist (part_sub _ _), h.nd.sublist (ids_sub (part_sub _ _)), fun x hx => h.ev x ((ids_sub (part_sub _ _)).subset hx), h.pos⟩
theorem find_atP {l : List Pp} {q : Pp → Bool} {i : Nat} {x : Pp} (h : l[i]? = some x) (h0 : ∀ y ∈ l.take i, q y = false) (hx : q x = true) : l.find? q = some x := by
  obtain ⟨h1, h2⟩ := List.getElem?_eq_some_iff.1 h
  have e : l = l.take i ++ x :: l.drop (i + 1) := by rw [← h2, ← List.drop_eq_getElem_cons h1, List.take_append_drop]
  rw [e, List.find?_append, List.find?_eq_none.2 (fun y hy => by rw [h0 y hy]; simp), List.find?_cons, hx]
  rfl
theorem oth_none {l : List Pp} {id : Int} : (othP l id).2 = false ↔ id ∉ idsL l := by
  unfold othP
  cases hf : l.find? (fun p => p.has id) with
  | none =>
    refine ⟨fun _ hm => ?_, fun _ => rfl⟩
    obtain ⟨p, hp, h⟩ := ids_iff.1 hm
    have := List.find?_eq_none.1 hf p hp
    rw [h] at this
    simp at this
  | some p =>
    refine ⟨fun h => (by cases h), fun h => ?_⟩
    exact absurd (ids_iff.2 ⟨p, List.mem_of_find?_eq_some hf, by simpa using List.find?_some hf⟩) h
/-- A number is in one pair at most. -/
theorem one_pair {l : List Pp} (h : (idsL l).Nodup) {p q : Pp} (hp : p ∈ l) (hq : q ∈ l) {id : Int} (h1 : p.has id = true) (h2 : q.has id = true) : p = q := by
  induction l with
  | nil => cases hp
  | cons a r ih =>
    have hn : (a.ids ++ idsL r).Nodup := h
    obtain ⟨_, n2, n3⟩ := List.nodup_append.1 hn
    rcases List.mem_cons.1 hp with e1 | hp
    · rcases List.mem_cons.1 hq with e2 | hq
      · rw [e1, e2]
      · rw [e1] at h1
        exact absurd rfl (n3 id (has_iff.1 h1) id (ids_iff.2 ⟨q, hq, h2⟩))
    · rcases List.mem_cons.1 hq with e2 | hq
      · rw [e2] at h2
        exact absurd rfl (n3 id (has_iff.1 h2) id (ids_iff.2 ⟨p, hp, h1⟩))
      · exact ih n2 hp hq
theorem oth_of {l : List Pp} (h : (idsL l).Nodup) {p : Pp} (hp : p ∈ l) {id : Int} (h1 : p.has id = true) : othP l id = (if p.v = id then p.c else p.v, true) := by
  unfold othP
  cases hf : l.find? (fun p => p.has id) with
  | none =>
    have := List.find?_eq_none.1 hf p hp
    rw [h1] at this
    simp at this
  | some q =>
    have := one_pair h hp (List.mem_of_find?_eq_some hf) h1 (by simpa using List.find?_some hf)
    rw [this]
/-- How many are left when one parts. -/
theorem part_len {l : List Pp} (h : (idsL l).Nodup) (id : Int) : (partL l id).length + (if (othP l id).2 = true then 1 else 0) = l.length := by
  induction l with
  | nil => simp [partL, othP]
  | cons a r ih =>
    have hn : (a.ids ++ idsL r).Nodup := h
    obtain ⟨_, n2, n3⟩ := List.nodup_append.1 hn
    have ih := ih n2
    cases ha : a.has id with
    | true =>
      have h2 : (othP r id).2 = false := oth_none.2 fun hm => absurd rfl (n3 id (has_iff.1 ha) id hm)
      rw [h2] at ih
      have h3 : othP (a :: r) id = (if a.v = id then a.c else a.v, true) := oth_of h (List.mem_cons_self ..) ha
      rw [h3]
      unfold partL at ih ⊢
      rw [List.filter_cons, ha]
      simp at ih ⊢
      omega
    | false =>
      have h3 : othP (a :: r) id = othP r id := by
        unfold othP
        rw [List.find?_cons, ha]
      rw [h3]
      unfold partL at ih ⊢
      rw [List.filter_cons, ha]
      simp only [Bool.not_false, if_true, List.length_cons]
      omega
/-- Who parts is in no pair; nor is the other one. -/
theorem part_gone {l : List Pp} (h : (idsL l).Nodup) (id : Int) : id ∉ idsL (partL l id) ∧ ((othP l id).2 = true → (othP l id).1 ∉ idsL (partL l id)) := by
  constructor
  · intro hm
    obtain ⟨p, hp, h1⟩ := ids_iff.1 hm
    have := (List.mem_filter.1 hp).2
    rw [h1] at this
    simp at this
  · intro ht hm
    have hi : id ∈ idsL l := by
      apply Classical.byContradiction
      intro hx
      rw [oth_none.2 hx] at ht
      cases ht
    obtain ⟨p, hp, h1⟩ := ids_iff.1 hi
    rw [oth_of h hp h1] at hm
    obtain ⟨q, hq, h2⟩ := ids_iff.1 hm
    obtain ⟨hq1, hq2⟩ := List.mem_filter.1 hq
    have h3 : p.has (if p.v = id then p.c else p.v) = true := by
      unfold Pp.has
      split <;> simp
    have := one_pair h hp hq1 h3 h2
    subst this
    rw [h1] at hq2
    simp at hq2
end Go.Proofs.Ytinjldjpncijjaa

/- Regions that draw their order: a stronger condition on worlds may be taken up on the way. Nothing of the program is named here. -/
namespace Go.Proofs.Ytinjldjpncijjaa
set_option linter.unusedVariables false
set_option maxRecDepth 100000
set_option linter.unusedSimpArgs false

theorem wpAnyH_mono {P : Program} {md : Region.Mode} {ops : Array Oper} {Q : Exit → Act → World → Prop} {S S' : World → Prop} (hS : ∀ w, S' w → S w) :
    ∀ (fuel : Nat) (listed : Array Bool) (a : Act) (w : World), wpAnyH P md ops Q S' fuel listed a w → wpAnyH P md ops Q S fuel listed a w
  | 0, _, _, _, h => h
  | fuel + 1, _, _, _, h => ⟨h.1, fun i hi => wpOp_mono (fun a' w' h' => ⟨hS w' h'.1, wpAnyH_mono hS fuel _ a' w' h'.2⟩) (h.2 i hi)⟩

/-- 'wpAnyH_take', the operation's own place said outright. -/
theorem take_at {P : Program} {md : Region.Mode} {ops : Array Oper} {Q : Exit → Act → World → Prop} {S : World → Prop} (d : Option Tmp) {i : Nat} {oi : Oper} {v : Value} {fuel : Nat} {listed : Array Bool} {a : Act} {w : World} (hi : ops[i]? = some oi)
    (hd : oi.dst = d) (hs : Region.noSelect ops = true) (hf : Region.free md ops listed i = true) (hr : (Region.ready md ops listed).contains i = true)
    (hQ : ∀ c a w, Q (.panic c) (a.put oi.dst v) w → Q (.panic c) a w) (hy : YieldsIf P ops S oi v a) (hS : S w)
    (h : wpAnyH P md ops Q S fuel (listed.setIfInBounds i true) (a.put d v) w) : wpAnyH P md ops Q S (fuel + 1) listed a w := by
  subst hd
  exact wpAnyH_take hi hs hf hr hQ hy hS h

end Go.Proofs.Ytinjldjpncijjaa

/- Parts of a slice of bytes; a slice expression in a region that draws its order, and in one that does not. -/
namespace Go.Proofs.Ytinjldjpncijjaa
set_option linter.unusedVariables false
set_option maxRecDepth 100000
set_option linter.unusedSimpArgs false
open Go.RowKit

theorem yieldsIf_slice {P : Program} {ops : Array Oper} {S : World → Prop} {oi : Oper} {a : Act} (hw : Region.wanted oi (yielded ops a.tmps) = true) (t : TypeId) (x : Operand) (lo hi : Option Operand) (ho : oi.op = .slice t x lo hi none) (v : Value)
    (h : ∀ w, (Instr.sliceAt t (a.eval x) (lo.map a.eval) (hi.map a.eval) none).run P w = .ok v w) : YieldsIf P ops S oi v a :=
  .inl ⟨hw, fun w _ => by
    unfold execOp
    simp only [ho, Sem.run_bind, Option.map_none, h w, Result.andThen_ok, Sem.run_pure]⟩

/-- Where b[lo:] lies. -/
def tailA (A : Option Addr) (c lo : Nat) : Option Addr := if c = lo then A else A.map (·.add (lo * 1))
theorem tailA_none (A : Option Addr) (c lo : Nat) (h : tailA A c lo = none) : A = none := by
  unfold tailA at h
  split at h
  · exact h
  · cases A with
    | none => rfl
    | some a => cases h
theorem Rb.tail {w : World} {B : Nat} {A : Option Addr} {l : List UInt8} {c : Nat} (h : Rb w B A l) (lo : Nat) (hc : l.length ≤ c) : Rb w B (tailA A c lo) (l.drop lo) := by
  by_cases h0 : l.drop lo = []
  · left; exact h0
  · have hlo : lo < l.length := by
      rcases Nat.lt_or_ge lo l.length with h1 | h1
      · exact h1
      · exact absurd (List.drop_of_length_le h1) h0
    rcases h with h | ⟨b, o, e, hb, hcl⟩
    · rw [h] at hlo; simp at hlo
    · subst e
      have e2 : tailA (some ⟨b, o, none⟩) c lo = some ⟨b, o + lo, none⟩ := by
        unfold tailA
        rw [if_neg (by omega)]
        simp only [Option.map_some, Nat.mul_one, Addr.add]
        split <;> simp_all
      rw [e2]
      refine .inr ⟨b, o + lo, rfl, hb, fun i hi => ?_⟩
      have hi' : lo + i < l.length := by rw [List.length_drop] at hi; omega
      have := hcl (lo + i) hi'
      rw [← Nat.add_assoc] at this
      rw [this, List.getElem_drop]
theorem Rb.front {w : World} {B : Nat} {A : Option Addr} {l : List UInt8} (h : Rb w B A l) (n : Nat) : Rb w B A (l.take n) := by
  rcases h with h | ⟨b, o, e, hb, hc⟩
  · left; rw [h]; simp
  · refine .inr ⟨b, o, e, hb, fun i hi => ?_⟩
    have hi' : i < l.length := by rw [List.length_take] at hi; omega
    rw [hc i hi', List.getElem_take]
/-- b[lo:] in a region that draws nothing. -/
theorem wpList_from {P : Program} {ops : Array Oper} {rest : List Oper} {o : Oper} {a : Act} {Q : Exit → Act → World → Prop} {w : World} (hgd : o.guard = none) (t : TypeId) (x lo : Operand) (ho : o.op = .slice t x (some lo) none none) (vx vl v : Value) (hx : a.eval x = vx) (hl : a.eval lo = vl)
    (hr : (Instr.sliceAt t vx (some vl) none none).run P w = .ok v w) (h : wpList P ops Q rest (a.put o.dst v) w) : wpList P ops Q (o :: rest) a w :=
  wpList_plain hgd fun _ hK => by
    unfold Oper.wp execOp
    simp only [ho, Option.map_some, Option.map_none, hx, hl, Sem.run_bind, hr, Result.andThen_ok, Sem.run_pure]
    exact hK _ _ h
end Go.Proofs.Ytinjldjpncijjaa

/- What comes in, opened into my own words. Nothing of the program is named here. -/
namespace Go.Proofs.Ytinjldjpncijjaa
set_option linter.unusedVariables false
set_option maxRecDepth 100000
set_option linter.unusedSimpArgs false
open Go.ChangeShapes Go.WideShapes Go.ChangeAt Go.RowKit

/-- A slice of bytes that came in. -/
structure InB (W : World) (A : Option Addr) (l : List UInt8) (n c : Nat) : Prop where
  rb : Rb W W.heap.size A l
  len : l.length = n
  cap : n ≤ c
  max : c ≤ maxLen
  nil_ : A = none → n = 0 ∧ c = 0

/-- A slice of integers that came in. -/
structure InN (k : IntKind) (W : World) (A : Option Addr) (l : List Int) (n c : Nat) : Prop where
  len : l.length = n
  cap : n ≤ c
  max : c ≤ maxLen
  nil_ : A = none → n = 0 ∧ c = 0
  at_ : n = 0 ∨ ∃ b o, A = some ⟨b, o, none⟩ ∧ b < W.heap.size ∧ ∀ i, (h : i < l.length) → W.cell? ⟨b, o + i, none⟩ = some (.int k l[i])
  wf : ∀ x ∈ l, (Lit.int k x).wf = true

theorem add_plain (b o i : Nat) : (⟨b, o, none⟩ : Addr).add i = ⟨b, o + i, none⟩ := by unfold Addr.add; split <;> simp_all

theorem open_nums {H : Type} {enc : TypeId × Value → H} {P : Program} {W : World} {A : Option Addr} {n c : Nat} {t e : TypeId} {k : IntKind} {d : DataW H} {p : List MemPlace} (ht : P.underlying t = some (.slice e)) (he : P.underlying e = some (.int k)) (hc : P.cellsOf e = 1)
    (h : DataW.Trod enc P W 0 (fun _ => true) true t (.slice A n c) d p) : ∃ l, InN k W A l n c := by
  obtain ⟨fuel, hf⟩ := h
  rcases open_ints ht he hc hf with ⟨hcs, _⟩ | ⟨x, ln, cp, zs, hcs, _, hl, hm, hz, _, hcell, hwz⟩
  · simp [Value.cells] at hcs
    obtain ⟨rfl, rfl, rfl⟩ := hcs
    exact ⟨[], ⟨rfl, Nat.le_refl _, by unfold maxLen; omega, fun _ => ⟨rfl, rfl⟩, .inl rfl, fun x hx => by cases hx⟩⟩
  · simp [Value.cells] at hcs
    obtain ⟨rfl, rfl, rfl⟩ := hcs
    have hzl : zs.length = c := by simpa using hz
    refine ⟨zs.take n, ⟨by rw [List.length_take]; omega, hl, hm, (fun h => by cases h), ?_, fun y hy => hwz y (List.mem_of_mem_take hy)⟩⟩
    by_cases h0 : n = 0
    · exact .inl h0
    · right
      obtain ⟨b, o, spot⟩ := x
      have hc0 := hcell 0 (by omega)
      have hspot : spot = none := by simpa [Addr.add] using World.cell?_spot hc0
      subst hspot
      refine ⟨b, o, rfl, ?_, fun i hi => ?_⟩
      · have := World.block_lt_of_cell? W _ hc0
        rw [add_plain] at this
        exact this
      · have hi' : i < zs.length := by rw [List.length_take] at hi; omega
        have := hcell i hi'
        rw [add_plain] at this
        rw [this]
        simp [List.getD, hi']

theorem open_bytes {H : Type} {enc : TypeId × Value → H} {P : Program} {W : World} {A : Option Addr} {n c : Nat} {t e : TypeId} {d : DataW H} {p : List MemPlace} (ht : P.underlying t = some (.slice e)) (he : P.underlying e = some (.int .u8)) (hc : P.cellsOf e = 1)
    (h : DataW.Trod enc P W 0 (fun _ => true) true t (.slice A n c) d p) : ∃ l, InB W A l n c := by
  obtain ⟨zs, hz⟩ := open_nums ht he hc h
  refine ⟨zs.map fun z => UInt8.ofNat z.toNat, ⟨?_, by rw [List.length_map]; exact hz.len, hz.cap, hz.max, hz.nil_⟩⟩
  rcases hz.at_ with h0 | ⟨b, o, e1, hb, hcell⟩
  · left
    have : zs = [] := List.eq_nil_of_length_eq_zero (by rw [hz.len, h0])
    rw [this]; rfl
  · right
    refine ⟨b, o, e1, hb, fun i hi => ?_⟩
    have hi' : i < zs.length := by simpa using hi
    rw [hcell i hi']
    have hw := hz.wf zs[i] (List.getElem_mem hi')
    have hr : 0 ≤ zs[i] ∧ zs[i] < 256 := by
      have e1 : IntKind.u8.min = 0 := by decide
      have e2 : IntKind.u8.max = 255 := by decide
      simp only [Lit.wf, e1, e2, Bool.and_eq_true, decide_eq_true_eq] at hw
      omega
    have : ((UInt8.ofNat (zs[i].toNat)).toNat : Int) = zs[i] := by
      rw [UInt8.toNat_ofNat']
      omega
    simp only [List.getElem_map]
    rw [this]

end Go.Proofs.Ytinjldjpncijjaa

/- The digits of a number, as lists: plain mathematics. -/
namespace Go.Proofs.Ytinjldjpncijjaa
set_option linter.unusedVariables false
set_option maxRecDepth 100000
set_option linter.unusedSimpArgs false

/-- The cells of the row of L digits, of which the last k are told. -/
def dcells (b n L k : Nat) : Array Value := ((List.range L).map fun j => Value.int .u8 (if L ≤ j + k then ((n / b ^ (L - 1 - j) % b : Nat) : Int) else 0)).toArray

theorem dcells_none (b n L : Nat) : dcells b n L 0 = Array.replicate L (.int .u8 0) := by
  apply Array.ext
  · simp [dcells]
  · intro i h1 h2
    have : i < L := by simpa [dcells] using h1
    simp [dcells]; omega

theorem dcells_size (b n L k : Nat) : (dcells b n L k).size = L := by simp [dcells]

theorem dcells_at (b n L k i : Nat) (h : i < L) : (dcells b n L k)[i]? = some (.int .u8 (if L ≤ i + k then ((n / b ^ (L - 1 - i) % b : Nat) : Int) else 0)) := by
  simp [dcells, h]

theorem dcells_set (b n L k : Nat) (h : k < L) : (dcells b n L k).setIfInBounds (L - 1 - k) (.int .u8 ((n / b ^ k % b : Nat) : Int)) = dcells b n L (k + 1) := by
  apply Array.ext
  · simp [dcells]
  · intro i h1 h2
    have hi : i < L := by simpa [dcells] using h2
    rw [Array.getElem_setIfInBounds (by simpa [dcells] using hi)]
    by_cases he : L - 1 - k = i
    · subst he
      have e1 : L - 1 - (L - 1 - k) = k := by omega
      have e2 : L ≤ L - 1 - k + (k + 1) := by omega
      simp [dcells, e1, e2]
    · rw [if_neg he]
      have : (L ≤ i + k) ↔ (L ≤ i + (k + 1)) := by omega
      simp [dcells, this]

/-- The digits of n of base b, the highest first. -/
def dg (b n : Nat) : List Nat := if h : b < 2 ∨ n < b then [n] else dg b (n / b) ++ [n % b]
termination_by n
decreasing_by
  have : ¬ (b < 2 ∨ n < b) := h
  exact Nat.div_lt_self (by omega) (by omega)

/-- A number below b^L, and not below b^(L-1) but for L = 1, has L digits, each what division tells. -/
theorem dg_eq (b : Nat) (hb : 2 ≤ b) : ∀ (L n : Nat), 1 ≤ L → n < b ^ L → (L = 1 ∨ b ^ (L - 1) ≤ n) → dg b n = (List.range L).map fun j => n / b ^ (L - 1 - j) % b := by
  intro L
  induction L with
  | zero => intro n h; omega
  | succ L ih =>
    intro n _ hlt hge
    rw [dg]
    by_cases hL : L = 0
    · subst hL
      have : n < b := by simpa using hlt
      simp [this, Nat.mod_eq_of_lt this]
    · have hge' : b ^ L ≤ n := by rcases hge with h | h; omega; simpa using h
      have hbn : b ≤ n := Nat.le_trans (by calc b = b ^ 1 := by simp
                                            _ ≤ b ^ L := Nat.pow_le_pow_right (by omega) (by omega)) hge'
      have hn : ¬ (b < 2 ∨ n < b) := by omega
      rw [dif_neg hn, ih (n / b) (by omega) (by rw [Nat.div_lt_iff_lt_mul (by omega)]; rw [Nat.pow_succ] at hlt; exact hlt)]
      · rw [List.range_succ, List.map_append]
        congr 1
        · apply List.map_congr_left
          intro j hj
          have hj' : j < L := by simpa using hj
          rw [Nat.div_div_eq_div_mul, ← Nat.pow_succ']
          have : L - 1 - j + 1 = L + 1 - 1 - j := by omega
          rw [Nat.succ_eq_add_one, this]
        · simp
      · by_cases h1 : L = 1
        · exact .inl h1
        · refine .inr ?_
          rw [Nat.le_div_iff_mul_le (by omega), ← Nat.pow_succ]
          have : (L - 1).succ = L := by omega
          rw [this]; exact hge'

theorem dg_lt (b : Nat) (hb : 2 ≤ b) : ∀ (n : Nat), ∀ d ∈ dg b n, d < b := by
  intro n
  induction n using Nat.strongRecOn with
  | ind n ih =>
    rw [dg]
    by_cases h : b < 2 ∨ n < b
    · rw [dif_pos h]; intro d hd; simp at hd; omega
    · rw [dif_neg h]
      intro d hd
      rw [List.mem_append] at hd
      rcases hd with hd | hd
      · exact ih (n / b) (Nat.div_lt_self (by omega) (by omega)) d hd
      · simp at hd; rw [hd]; exact Nat.mod_lt _ (by omega)

theorem dg_pos (b n : Nat) : 0 < (dg b n).length := by
  rw [dg]; split <;> simp


/-- A number's bytes. -/
def putB (n : Nat) : List UInt8 := (if n < 128 then [] else (dg 128 (n / 128)).map fun d => UInt8.ofNat (d + 128)) ++ [UInt8.ofNat (n % 128)]
/-- A number's decimals. -/
def decB (n : Nat) : List UInt8 := (dg 10 n).map fun d => UInt8.ofNat (d + 48)

/-- The cells of which the first k are marked. -/
def pcells (a n b L k : Nat) : Array Value := ((List.range L).map fun j => Value.int .u8 (if j < k then ((n / b ^ (L - 1 - j) % b + a : Nat) : Int) else ((n / b ^ (L - 1 - j) % b : Nat) : Int))).toArray

theorem pcells_zero (a n b L : Nat) : pcells a n b L 0 = dcells b n L L := by
  unfold pcells dcells
  congr 1
  apply List.map_congr_left
  intro j hj
  rw [if_neg (by omega), if_pos (by omega)]

theorem pcells_at (a n b L k i : Nat) (h : i < L) : (pcells a n b L k)[i]? = some (.int .u8 (if i < k then ((n / b ^ (L - 1 - i) % b + a : Nat) : Int) else ((n / b ^ (L - 1 - i) % b : Nat) : Int))) := by
  simp [pcells, h]

theorem pcells_set (a n b L k : Nat) (h : k < L) : (pcells a n b L k).setIfInBounds k (.int .u8 ((n / b ^ (L - 1 - k) % b + a : Nat) : Int)) = pcells a n b L (k + 1) := by
  apply Array.ext
  · simp [pcells]
  · intro i h1 h2
    have hi : i < L := by simpa [pcells] using h2
    rw [Array.getElem_setIfInBounds (by simpa [pcells] using hi)]
    by_cases he : k = i
    · subst he
      simp [pcells]
    · rw [if_neg he]
      have : (i < k) ↔ (i < k + 1) := by omega
      simp [pcells, this]

theorem u8_ofNat (d : Nat) (h : d < 256) : (UInt8.ofNat d).toNat = d := by simp [UInt8.toNat_ofNat']; omega

theorem pcells_dec (n L : Nat) (h1 : 1 ≤ L) (hlt : n < 10 ^ L) (hge : L = 1 ∨ 10 ^ (L - 1) ≤ n) : pcells 48 n 10 L L = bcells (decB n) := by
  unfold pcells bcells decB
  rw [dg_eq 10 (by omega) L n h1 hlt hge, List.map_map, List.map_map]
  congr 1
  apply List.map_congr_left
  intro j hj
  have hj' : j < L := by simpa using hj
  have := Nat.mod_lt (n / 10 ^ (L - 1 - j)) (by omega : 10 > 0)
  simp only [Function.comp, if_pos hj']
  rw [u8, u8_ofNat _ (by omega)]

theorem pcells_put (n L : Nat) (h1 : 1 ≤ L) (hlt : n < 128 ^ L) (hge : L = 1 ∨ 128 ^ (L - 1) ≤ n) : pcells 128 n 128 L (L - 1) = bcells (putB n) := by
  obtain ⟨K, rfl⟩ : ∃ K, L = K + 1 := ⟨L - 1, by omega⟩
  unfold pcells bcells putB
  rw [List.range_succ, List.map_append, List.map_append]
  congr 1
  congr 1
  · by_cases hn : n < 128
    · have hK : K = 0 := by
        rcases hge with h | h
        · omega
        · rcases Nat.eq_zero_or_pos K with h0 | h0
          · exact h0
          · have : 128 ^ 1 ≤ 128 ^ K := Nat.pow_le_pow_right (by omega) h0
            have h' : 128 ^ K ≤ n := by simpa using h
            omega
      subst hK
      simp [hn]
    · have hK : 1 ≤ K := by
        rcases Nat.eq_zero_or_pos K with h0 | h0
        · subst h0; simp at hlt; omega
        · exact h0
      have hge' : 128 ^ K ≤ n := by rcases hge with h | h; omega; simpa using h
      rw [if_neg hn, dg_eq 128 (by omega) K (n / 128) hK (by rw [Nat.div_lt_iff_lt_mul (by omega)]; rw [Nat.pow_succ] at hlt; exact hlt), List.map_map, List.map_map]
      · apply List.map_congr_left
        intro j hj
        have hj' : j < K := by simpa using hj
        have e : n / 128 / 128 ^ (K - 1 - j) = n / 128 ^ (K - j) := by
          rw [Nat.div_div_eq_div_mul, ← Nat.pow_succ']
          have : (K - 1 - j).succ = K - j := by omega
          rw [this]
        have := Nat.mod_lt (n / 128 ^ (K - j)) (by omega : 128 > 0)
        simp only [Function.comp, Nat.add_sub_cancel, if_pos hj']
        rw [e, u8, u8_ofNat _ (by omega)]
      · by_cases hk1 : K = 1
        · exact .inl hk1
        · refine .inr ?_
          rw [Nat.le_div_iff_mul_le (by omega), ← Nat.pow_succ]
          have : (K - 1).succ = K := by omega
          rw [this]; exact hge'
  · simp
    omega

theorem putB_length (n L : Nat) (h1 : 1 ≤ L) (hlt : n < 128 ^ L) (hge : L = 1 ∨ 128 ^ (L - 1) ≤ n) : (putB n).length = L := by
  have h := congrArg Array.size (pcells_put n L h1 hlt hge)
  rw [bcells_size] at h
  rw [← h]; simp [pcells]
theorem decB_length (n L : Nat) (h1 : 1 ≤ L) (hlt : n < 10 ^ L) (hge : L = 1 ∨ 10 ^ (L - 1) ≤ n) : (decB n).length = L := by
  have h := congrArg Array.size (pcells_dec n L h1 hlt hge)
  rw [bcells_size] at h
  rw [← h]; simp [pcells]

end Go.Proofs.Ytinjldjpncijjaa

/- Greater numbers have greater bytes, or more: plain mathematics. -/
namespace Go.Proofs.Ytinjldjpncijjaa
set_option linter.unusedVariables false
set_option maxRecDepth 100000
set_option linter.unusedSimpArgs false

theorem dg_small {b x : Nat} (h : x < b) : dg b x = [x] := by rw [dg, dif_pos (.inr h)]
theorem dg_big {b x : Nat} (hb : 2 ≤ b) (h : ¬ x < b) : dg b x = dg b (x / b) ++ [x % b] := by
  rw [dg, dif_neg (by omega)]

/-- Fewer, or as many and less. -/
def slx (a b : List UInt8) : Bool := decide (a.length < b.length) || (a.length == b.length && Op.bytesLess a b)

theorem bytesLess_snoc : ∀ (x y : List UInt8) (c d : UInt8), x.length = y.length → Op.bytesLess (x ++ [c]) (y ++ [d]) = (Op.bytesLess x y || (x == y && decide (c < d))) := by
  intro x
  induction x with
  | nil =>
    intro y c d h
    have : y = [] := List.eq_nil_of_length_eq_zero h.symm
    subst this
    simp [Op.bytesLess]
  | cons a x ih =>
    intro y c d h
    cases y with
    | nil => simp at h
    | cons b y =>
      have h' : x.length = y.length := by simpa using h
      simp only [List.cons_append, Op.bytesLess, ih y c d h']
      by_cases hab : a = b
      · subst hab
        simp
      · have e1 : (a == b) = false := by simpa using hab
        simp [e1]

/-- Rows that end in one byte more each. -/
theorem slx_snoc (x y : List UInt8) (c d : UInt8) : slx (x ++ [c]) (y ++ [d]) = (slx x y || (x == y && decide (c < d))) := by
  unfold slx
  rw [List.length_append, List.length_append]
  by_cases h : x.length = y.length
  · rw [bytesLess_snoc x y c d h]
    have h1 : ¬ x.length < y.length := by omega
    simp [h]
  · have h2 : ¬ x = y := fun e => h (by rw [e])
    have e1 : (x == y) = false := by simpa using h2
    have e2 : (x.length == y.length) = false := by simpa using h
    simp [e1, e2]

section
variable (b : Nat) (hb : 2 ≤ b) (f g : Nat → UInt8) (hf : ∀ x y, x < b → y < b → (f x < f y ↔ x < y)) (hg : ∀ x y, x < b → y < b → (g x < g y ↔ x < y))
include hb hf

theorem map_inj : ∀ (x y : Nat), (dg b x).map f = (dg b y).map f → x = y := by
  have inj : ∀ x y, x < b → y < b → f x = f y → x = y := by
    intro x y hx hy h
    rcases Nat.lt_trichotomy x y with h1 | h1 | h1
    · have := (hf x y hx hy).2 h1; rw [h] at this; exact absurd this (by simp)
    · exact h1
    · have := (hf y x hy hx).2 h1; rw [h] at this; exact absurd this (by simp)
  intro x
  induction x using Nat.strongRecOn with
  | ind x ih =>
    intro y h
    by_cases hx : x < b <;> by_cases hy : y < b
    · rw [dg_small hx, dg_small hy] at h
      simp at h
      exact inj x y hx hy h
    · rw [dg_small hx, dg_big hb hy] at h
      have hl := congrArg List.length h
      have hp := dg_pos b (y / b)
      simp only [List.map_append, List.length_append, List.length_map, List.length_cons, List.length_nil] at hl
      omega
    · rw [dg_big hb hx, dg_small hy] at h
      have hl := congrArg List.length h
      have hp := dg_pos b (x / b)
      simp only [List.map_append, List.length_append, List.length_map, List.length_cons, List.length_nil] at hl
      omega
    · rw [dg_big hb hx, dg_big hb hy, List.map_append, List.map_append] at h
      have hl := congrArg List.length h
      simp only [List.length_append, List.length_map, List.length_cons, List.length_nil] at hl
      obtain ⟨h1, h2⟩ := List.append_inj h (by simp; omega)
      have e1 := ih (x / b) (Nat.div_lt_self (by omega) (by omega)) (y / b) h1
      simp at h2
      have e2 := inj (x % b) (y % b) (Nat.mod_lt _ (by omega)) (Nat.mod_lt _ (by omega)) h2
      rw [← Nat.div_add_mod x b, ← Nat.div_add_mod y b, e1, e2]

theorem slx_dg : ∀ (x y : Nat), slx ((dg b x).map f) ((dg b y).map f) = decide (x < y) := by
  intro x
  induction x using Nat.strongRecOn with
  | ind x ih =>
    intro y
    by_cases hx : x < b <;> by_cases hy : y < b
    · rw [dg_small hx, dg_small hy]
      have := hf x y hx hy
      by_cases h : x < y
      · have h1 := this.2 h
        simp [slx, Op.bytesLess, h, h1]
      · have h1 : ¬ f x < f y := fun h' => h (this.1 h')
        simp [slx, Op.bytesLess, h, h1]
    · have hl : (dg b y).length = (dg b (y / b)).length + 1 := by rw [dg_big hb hy]; simp
      have := dg_pos b (y / b)
      have hxl : (dg b x).length = 1 := by rw [dg_small hx]; rfl
      have h : x < y := by omega
      simp [slx, hl, hxl, h, this]
    · have hl : (dg b x).length = (dg b (x / b)).length + 1 := by rw [dg_big hb hx]; simp
      have := dg_pos b (x / b)
      have hyl : (dg b y).length = 1 := by rw [dg_small hy]; rfl
      have h : ¬ x < y := by omega
      have h2 : ¬ (dg b (x / b)).length = 0 := by omega
      simp [slx, hl, hyl, h, h2]
    · have ex := dg_big hb hx
      have ey := dg_big hb hy
      rw [ex, ey, List.map_append, List.map_append]
      show slx (_ ++ [f (x % b)]) (_ ++ [f (y % b)]) = _
      rw [slx_snoc, ih (x / b) (Nat.div_lt_self (by omega) (by omega)) (y / b)]
      have hm := hf (x % b) (y % b) (Nat.mod_lt _ (by omega)) (Nat.mod_lt _ (by omega))
      have dx := Nat.div_add_mod x b
      have dy := Nat.div_add_mod y b
      have mx := Nat.mod_lt x (by omega : b > 0)
      have my := Nat.mod_lt y (by omega : b > 0)
      rw [Bool.eq_iff_iff]
      simp only [Bool.or_eq_true, Bool.and_eq_true, decide_eq_true_eq, beq_iff_eq]
      rw [hm]
      constructor
      · rintro (h | ⟨h, h'⟩)
        · have : b * (x / b) + b ≤ b * (y / b) := by rw [← Nat.mul_succ]; exact Nat.mul_le_mul_left b h
          omega
        · have := map_inj b hb f hf _ _ h
          rw [this] at dx
          omega
      · intro h
        rcases Nat.lt_trichotomy (x / b) (y / b) with h1 | h1 | h1
        · exact .inl h1
        · right
          refine ⟨by rw [h1], ?_⟩
          rw [h1] at dx
          omega
        · have : b * (y / b) + b ≤ b * (x / b) := by rw [← Nat.mul_succ]; exact Nat.mul_le_mul_left b h1
          omega

include hg

/-- Rows whose last digit is told otherwise. -/
theorem slx_mark (x y : Nat) : slx ((if x < b then [] else (dg b (x / b)).map f) ++ [g (x % b)]) ((if y < b then [] else (dg b (y / b)).map f) ++ [g (y % b)]) = decide (x < y) := by
  rw [slx_snoc]
  have hm := hg (x % b) (y % b) (Nat.mod_lt _ (by omega)) (Nat.mod_lt _ (by omega))
  have dx := Nat.div_add_mod x b
  have dy := Nat.div_add_mod y b
  have mx := Nat.mod_lt x (by omega : b > 0)
  have my := Nat.mod_lt y (by omega : b > 0)
  rw [Bool.eq_iff_iff]
  simp only [Bool.or_eq_true, Bool.and_eq_true, decide_eq_true_eq, beq_iff_eq]
  rw [hm]
  by_cases hx : x < b <;> by_cases hy : y < b
  · rw [if_pos hx, if_pos hy, Nat.mod_eq_of_lt hx, Nat.mod_eq_of_lt hy]
    simp [slx, Op.bytesLess]
  · rw [if_pos hx, if_neg hy]
    have := dg_pos b (y / b)
    have h : x < y := by omega
    simp [slx, h, this]
  · rw [if_neg hx, if_pos hy]
    have := dg_pos b (x / b)
    have h : ¬ x < y := by omega
    have h2 : dg b (x / b) ≠ [] := fun e => by rw [e] at this; simp at this
    simp [slx, h, h2, Op.bytesLess]
  · rw [if_neg hx, if_neg hy, slx_dg b hb f hf]
    simp only [decide_eq_true_eq]
    constructor
    · rintro (h | ⟨h, h'⟩)
      · have : b * (x / b) + b ≤ b * (y / b) := by rw [← Nat.mul_succ]; exact Nat.mul_le_mul_left b h
        omega
      · have := map_inj b hb f hf _ _ h
        rw [this] at dx
        omega
    · intro h
      rcases Nat.lt_trichotomy (x / b) (y / b) with h1 | h1 | h1
      · exact .inl h1
      · right
        refine ⟨by rw [h1], ?_⟩
        rw [h1] at dx
        omega
      · have : b * (y / b) + b ≤ b * (x / b) := by rw [← Nat.mul_succ]; exact Nat.mul_le_mul_left b h1
        omega
end

theorem ofNat_lt (a x y : Nat) (hx : x + a < 256) (hy : y + a < 256) : (UInt8.ofNat (x + a) < UInt8.ofNat (y + a)) ↔ x < y := by
  rw [UInt8.lt_iff_toNat_lt, u8_ofNat _ hx, u8_ofNat _ hy]; omega

theorem putB_less (x y : Nat) : slx (putB x) (putB y) = decide (x < y) :=
  slx_mark 128 (by omega) (fun d => UInt8.ofNat (d + 128)) (fun d => UInt8.ofNat d) (fun x y hx hy => ofNat_lt 128 x y (by omega) (by omega)) (fun x y hx hy => ofNat_lt 0 x y (by omega) (by omega)) x y
theorem decB_less (x y : Nat) : slx (decB x) (decB y) = decide (x < y) :=
  slx_dg 10 (by omega) (fun d => UInt8.ofNat (d + 48)) (fun x y hx hy => ofNat_lt 48 x y (by omega) (by omega)) x y
theorem putB_inj (x y : Nat) (h : putB x = putB y) : x = y := by
  have h1 := putB_less x y
  have h2 := putB_less y x
  rw [h] at h1 h2
  rw [h1] at h2
  have := decide_eq_decide.1 h2
  omega
theorem decB_inj (x y : Nat) (h : decB x = decB y) : x = y :=
  map_inj 10 (by omega) (fun d => UInt8.ofNat (d + 48)) (fun x y hx hy => ofNat_lt 48 x y (by omega) (by omega)) x y h

theorem dg_head' (b : Nat) (hb : 2 ≤ b) : ∀ n : Nat, 0 < n → ∃ d r, dg b n = d :: r ∧ d ≠ 0 := by
  intro n
  induction n using Nat.strongRecOn with
  | ind n ih =>
    intro hn
    rw [dg]
    by_cases h : b < 2 ∨ n < b
    · rw [dif_pos h]; exact ⟨n, [], rfl, by omega⟩
    · rw [dif_neg h]
      obtain ⟨d, r, e, hd⟩ := ih (n / b) (Nat.div_lt_self (by omega) (by omega)) (Nat.div_pos (by omega) (by omega))
      exact ⟨d, r ++ [n % b], by rw [e]; rfl, hd⟩

/-- A text of its bytes. -/
def bs (l : List UInt8) : ByteArray := ⟨l.toArray⟩
theorem bs_list (l : List UInt8) : (bs l).toList = l := by rw [ByteArray.toList_eq]; simp [bs]
theorem bs_size (l : List UInt8) : (bs l).size = l.length := by simp [bs, ByteArray.size]
theorem bs_inj {a b : List UInt8} (h : bs a = bs b) : a = b := by rw [← bs_list a, ← bs_list b, h]
theorem bs_of (s : ByteArray) : bs s.data.toList = s := by cases s; simp [bs]
theorem bs_data (l : List UInt8) : (bs l).data.toList = l := by simp [bs]

theorem dg_len (b : Nat) (hb : 2 ≤ b) : ∀ n, (dg b n).length ≤ n + 1 := by
  intro n
  induction n using Nat.strongRecOn with
  | ind n ih =>
    by_cases h : n < b
    · rw [dg_small h]; simp
    · have := ih (n / b) (Nat.div_lt_self (by omega) (by omega))
      have h2 : n / b < n := Nat.div_lt_self (by omega) (by omega)
      rw [dg_big hb h, List.length_append]; simp; omega
theorem decB_len (x : Nat) (hx : x ≤ 1099511627776) : (decB x).length ≤ 140737488355328 := by
  have := dg_len 10 (by omega) x
  unfold decB; rw [List.length_map]; omega
theorem putB_len (x : Nat) (hx : x ≤ 1099511627776) : (putB x).length ≤ 140737488355328 := by
  have := dg_len 128 (by omega) (x / 128)
  unfold putB
  split <;> simp <;> omega
end Go.Proofs.Ytinjldjpncijjaa

/- string(b) in a region that draws its order. Nothing of the program is named here. -/
namespace Go.Proofs.Ytinjldjpncijjaa
set_option linter.unusedVariables false
set_option maxRecDepth 100000
set_option linter.unusedSimpArgs false
open Go.RowKit

theorem yieldsIf_conv {P : Program} {ops : Array Oper} {S : World → Prop} {oi : Oper} {a : Act} (hw : Region.wanted oi (yielded ops a.tmps) = true) (src e dst : TypeId) (x : Operand) (ho : oi.op = .convert src dst x)
    (A : Option Addr) (n c : Nat) (l : List UInt8) (hx : a.eval x = .slice A n c) (hn : l.length = n) {B : World → Nat} (hR : ∀ w, S w → Rb w (B w) A l) (hs : P.underlying src = some (.slice e)) (he : P.underlying e = some (.int .u8)) (hd : P.underlying dst = some .string) : YieldsIf P ops S oi (.string (bs l)) a :=
  .inl ⟨hw, fun w hw' => by
    unfold execOp
    simp only [ho, hx, Sem.run_bind, str_of (hR w hw') src e dst hs he hd n c hn, Result.andThen_ok, Sem.run_pure, bs]⟩
end Go.Proofs.Ytinjldjpncijjaa

/- Slices of bytes that the call itself made: what they own, and what an append leaves. Nothing of the program is named here. -/
namespace Go.Proofs.Ytinjldjpncijjaa
set_option linter.unusedVariables false
set_option maxRecDepth 100000
set_option linter.unusedSimpArgs false
open Go.RowKit

/-- The slice at A, of capacity c, owns the bytes l: it lies at block B or behind it. -/
def OB (w : World) (B : Nat) (e : TypeId) (A : Option Addr) (c : Nat) (l : List UInt8) : Prop := w.ownsRow B e 1 (.slice A l.length c) l.length (l.map u8)

theorem OB.nil (w : World) (B : Nat) (e : TypeId) : OB w B e none 0 [] := World.ownsRow_nil w B e 1

theorem OB.form {w : World} {B : Nat} {e : TypeId} {A : Option Addr} {c : Nat} {l : List UInt8} (h : OB w B e A c l) (h0 : l ≠ []) : ∃ g, A = some ⟨g, 0, none⟩ ∧ B ≤ g ∧ g < w.heap.size := by
  have hp : 0 < l.length := List.length_pos_iff.2 h0
  obtain ⟨g, cap, hv, hb, hl⟩ := World.ownsRow.form h hp
  injection hv with h1 h2 h3
  exact ⟨g, h1, hb, hl⟩

theorem OB.rb {w : World} {B : Nat} {e : TypeId} {A : Option Addr} {c : Nat} {l : List UInt8} (h : OB w B e A c l) : Rb w w.heap.size A l := by
  by_cases h0 : l = []
  · exact .inl h0
  · obtain ⟨g, rfl, _, hl⟩ := h.form h0
    refine .inr ⟨g, 0, rfl, hl, fun i hi => ?_⟩
    have := World.ownsRow.cellAt h i (by omega)
    rw [Nat.zero_add, this]
    simp [hi]

theorem OB.cap {w : World} {B : Nat} {e : TypeId} {A : Option Addr} {c : Nat} {l : List UInt8} (h : OB w B e A c l) : l.length ≤ c ∧ c ≤ 9223372036854775807 := by
  rcases h.2 with ⟨hv, h0⟩ | ⟨g, cap, cur, hv, _, _, hn, hm, _⟩
  · injection hv with _ _ h3
    omega
  · injection hv with _ _ h3
    unfold maxLen at hm
    omega

theorem OB.new {w : World} {B : Nat} (e : TypeId) (l : List UInt8) (hB : B ≤ w.heap.size) (hl : l.length ≤ 140737488355328) : OB (w.alloc (.cells (bcells l) e)) B e (some ⟨w.heap.size, 0, none⟩) l.length l := by
  have := World.ownsRow_lit (base := B) (e := e) (size := 1) w (bcells l) l.length hB (by unfold maxLen; omega) (by rw [bcells_size]; omega)
  have e1 : (bcells l).toList = l.map u8 := by simp [bcells]
  rw [e1] at this
  exact this

theorem OB.grown {w w' : World} {B : Nat} {e : TypeId} {A : Option Addr} {c : Nat} {l : List UInt8} (h : OB w B e A c l) {row : Option Nat} (hg : w.grownBy w' row) (hne : (Value.slice A l.length c).ownBlock = none ∨ (Value.slice A l.length c).ownBlock ≠ row) : OB w' B e A c l :=
  World.ownsRow.kept h hg hne
theorem OB.alloc {w : World} {B : Nat} {e : TypeId} {A : Option Addr} {c : Nat} {l : List UInt8} (h : OB w B e A c l) (o : Obj) : OB (w.alloc o) B e A c l := World.ownsRow.alloc h o

/-- append of bytes that a slice reads as. -/
theorem wp_app {P : Program} {ops : Array Oper} {rest : List Oper} {o : Oper} {a : Act} {Q : Exit → Act → World → Prop} {w : World} (hgd : o.guard = none) (s x : Operand) (t e : TypeId)
    (ho : o.op = .call { callee := .builtin .append, args := #[s, x], argTypes := #[t, t] }) (ht : P.underlying t = some (.slice e))
    (hi : (P.info? e).map (fun i => (i.zero, i.size, i.bytes)) = some (some (.int .u8 0), 1, 1)) (B : Nat) (l : List UInt8) (A : Option Addr) (n c : Nat) (hs : a.eval s = .slice A n c) (hn : l.length = n) (hown : OB w B e A c l)
    (k : List UInt8) (ad : Addr) (m c' B' : Nat) (hx : a.eval x = .slice (some ad) m c') (hm : k.length = m) (hR : Rb w B' (some ad) k)
    (hlen : l.length + k.length ≤ 140737488355328) (hbase : B ≤ w.heap.size)
    (h : ∀ A2 c2 w', OB w' B e A2 c2 (l ++ k) → w.grownBy w' (Value.slice A n c).ownBlock → Below B w w' → wpList P ops Q rest (a.put o.dst (.slice A2 (l ++ k).length c2)) w') : wpList P ops Q (o :: rest) a w := by
  subst hn; subst hm
  obtain ⟨i, hi1, hz, hsz, hby⟩ := info_parts hi
  refine wpList_append_own w hgd s x t ho B e i (.int .u8 0) 1 1 ht hi1 hz hsz hby rfl (by decide) _ l.length (l.map u8) hs hown ad k.length c' (k.map u8) hx (by simp) ?_ ?_ (by unfold maxLen; omega) (by omega) hbase ?_
  · intro j u hu
    have hj : j < k.length := by
      rcases Nat.lt_or_ge j k.length with h1 | h1
      · exact h1
      · rw [List.getElem?_eq_none (by simpa using h1)] at hu; cases hu
    rcases hR with h0 | ⟨b, off, e1, _, hc⟩
    · subst h0; simp at hj
    · injection e1 with e1
      subst e1
      have hplain : (⟨b, off, none⟩ : Addr).add j = ⟨b, off + j, none⟩ := by unfold Addr.add; split <;> simp_all
      rw [hplain, hc j hj]
      simp [hj] at hu
      exact congrArg some hu
  · intro u hu
    obtain ⟨b, _, rfl⟩ := List.mem_map.1 hu
    rfl
  · intro v' w' hown' hg _
    have hbel : Below B w w' := (Below.refl B w).grown hg hbase (fun k hk => (World.ownsRow.lt hown k hk).1)
    have hlen' : (l ++ k).length = l.length + k.length := List.length_append
    by_cases h0 : l ++ k = []
    · have h00 : l.length + k.length = 0 := by rw [← hlen', h0]; rfl
      rw [h00] at hown'
      rcases hown'.2 with ⟨rfl, _⟩ | ⟨g, cap, cur, rfl, _, r⟩
      · have := h none 0 w' (by rw [h0]; exact OB.nil w' B e) hg hbel
        rwa [h0] at this
      · have := h (some ⟨g, 0, none⟩) cap w' (by
          rw [h0]
          have e2 : List.map u8 l ++ List.map u8 k = [] := by rw [← List.map_append, h0]; rfl
          rw [e2] at hown'
          exact hown') hg hbel
        rwa [h0] at this
    · have hp : 0 < l.length + k.length := by rw [← hlen']; exact List.length_pos_iff.2 h0
      obtain ⟨g, cap, rfl, _, _⟩ := World.ownsRow.form hown' hp
      have := h (some ⟨g, 0, none⟩) cap w' (by unfold OB; rw [hlen', List.map_append]; exact hown') hg hbel
      rwa [hlen'] at this

/-- The same, the slice of which bytes are appended being nil or not. -/
theorem wp_app_any {P : Program} {ops : Array Oper} {rest : List Oper} {o : Oper} {a : Act} {Q : Exit → Act → World → Prop} {w : World} (hgd : o.guard = none) (s x : Operand) (t e : TypeId)
    (ho : o.op = .call { callee := .builtin .append, args := #[s, x], argTypes := #[t, t] }) (ht : P.underlying t = some (.slice e))
    (hi : (P.info? e).map (fun i => (i.zero, i.size, i.bytes)) = some (some (.int .u8 0), 1, 1)) (B : Nat) (l : List UInt8) (A : Option Addr) (n c : Nat) (hs : a.eval s = .slice A n c) (hn : l.length = n) (hown : OB w B e A c l)
    (k : List UInt8) (A' : Option Addr) (m c' B' : Nat) (hx : a.eval x = .slice A' m c') (hm : k.length = m) (hnil : A' = none → m = 0 ∧ c' = 0) (hR : Rb w B' A' k)
    (hlen : l.length + k.length ≤ 140737488355328) (hbase : B ≤ w.heap.size)
    (h : ∀ A2 c2 w', OB w' B e A2 c2 (l ++ k) → w.grownBy w' (Value.slice A n c).ownBlock → Below B w w' → wpList P ops Q rest (a.put o.dst (.slice A2 (l ++ k).length c2)) w') : wpList P ops Q (o :: rest) a w := by
  cases A' with
  | some ad => exact wp_app hgd s x t e ho ht hi B l A n c hs hn hown k ad m c' B' hx hm hR hlen hbase h
  | none =>
    obtain ⟨rfl, rfl⟩ := hnil rfl
    have hk : k = [] := List.eq_nil_of_length_eq_zero hm
    subst hk
    subst hn
    obtain ⟨i, hi1, hz, hsz, hby⟩ := info_parts hi
    refine wpList_append_own_none hgd s x t ho B e i 1 ht hi1 _ l.length (l.map u8) hs hown hx ?_
    have := h A c w (by simpa using hown) (World.grownBy.refl w _) (Below.refl B w)
    simpa using this

/-- append of a text's bytes. -/
theorem wp_app_str {P : Program} {ops : Array Oper} {rest : List Oper} {o : Oper} {a : Act} {Q : Exit → Act → World → Prop} {w : World} (hgd : o.guard = none) (sl x : Operand) (t u e : TypeId)
    (ho : o.op = .call { callee := .builtin .append, args := #[sl, x], argTypes := #[t, u] }) (ht : P.underlying t = some (.slice e)) (hu : P.underlying u = some .string)
    (hi : (P.info? e).map (fun i => (i.zero, i.size, i.bytes)) = some (some (.int .u8 0), 1, 1)) (B : Nat) (l : List UInt8) (A : Option Addr) (n c : Nat) (hs : a.eval sl = .slice A n c) (hn : l.length = n) (hown : OB w B e A c l)
    (s : ByteArray) (hx : a.eval x = .string s) (hlen : l.length + s.size ≤ 140737488355328) (hbase : B ≤ w.heap.size)
    (h : ∀ A2 c2 w', OB w' B e A2 c2 (l ++ s.data.toList) → w.grownBy w' (Value.slice A n c).ownBlock → Below B w w' → wpList P ops Q rest (a.put o.dst (.slice A2 (l ++ s.data.toList).length c2)) w') : wpList P ops Q (o :: rest) a w := by
  subst hn
  obtain ⟨i, hi1, hz, hsz, hby⟩ := info_parts hi
  refine Go.Lib.wpList_append_own_string (w := w) hgd sl x t u ho B e i ht hu hi1 hz hsz hby _ l.length (l.map u8) hs hown s hx (by unfold maxLen; omega) (by omega) hbase ?_
  intro v' w' hown' hg _
  have hbel : Below B w w' := (Below.refl B w).grown hg hbase (fun k hk => (World.ownsRow.lt hown k hk).1)
  have hsl : s.data.toList.length = s.size := rfl
  have hlen' : (l ++ s.data.toList).length = l.length + s.size := by rw [List.length_append, hsl]
  have hst : Go.Lib.strCells s = s.data.toList.map u8 := rfl
  rw [hst, ← List.map_append] at hown'
  rw [← hlen'] at hown'
  by_cases h0 : l ++ s.data.toList = []
  · rw [h0] at hown'
    rcases hown'.2 with ⟨rfl, _⟩ | ⟨g, cap, cur, rfl, _, r⟩
    · have := h none 0 w' (by rw [h0]; exact OB.nil w' B e) hg hbel
      rwa [h0] at this
    · have := h (some ⟨g, 0, none⟩) cap w' (by rw [h0]; exact hown') hg hbel
      rwa [h0] at this
  · have hp : 0 < (l ++ s.data.toList).length := List.length_pos_iff.2 h0
    obtain ⟨g, cap, rfl, _, _⟩ := World.ownsRow.form hown' hp
    exact h (some ⟨g, 0, none⟩) cap w' hown' hg hbel

/-- make([]byte, 0, c): it owns nothing yet. -/
theorem mk_empty {P : Program} (w : World) (t e : TypeId) (ht : P.underlying t = some (.slice e)) (hi : (P.info? e).map (fun i => (i.zero, i.size, i.bytes)) = some (some (.int .u8 0), 1, 1)) (c : Nat) (hc : c ≤ 140737488355328) (kl kc : IntKind := .i64) :
    (Instr.makeSlice t (.int kl 0) (.int kc (c : Int))).run P w = .ok (.slice (some ⟨w.heap.size, 0, none⟩) 0 c) (w.alloc (.cells (Array.replicate c (.int .u8 0)) e)) := by
  obtain ⟨i, hi1, hz, hs, hb⟩ := info_parts hi
  have h := run_make (P := P) w t e i (.int .u8 0) ht hi1 hz kl kc 0 c (by omega) (by omega) (by rw [hb]; omega) (by omega)
  rw [h]
  have e1 : madeCells #[Value.int .u8 0] c = Array.replicate c (.int .u8 0) := by
    apply Array.ext'; rw [toList_madeCells_one]; simp
  simp [hs, Value.cells, e1]

theorem OB.made (w : World) {B : Nat} (e : TypeId) (c : Nat) (hB : B ≤ w.heap.size) (hc : c ≤ 140737488355328) : OB (w.alloc (.cells (Array.replicate c (.int .u8 0)) e)) B e (some ⟨w.heap.size, 0, none⟩) c [] := by
  have := World.ownsRow_made (base := B) (e := e) (size := 1) w (Array.replicate c (.int .u8 0)) c hB (by unfold maxLen; omega) (by simp)
  exact this

/-- A block of constant bytes, with its mark. -/
theorem Rb.marked {w : World} {t : TypeId} {l : List UInt8} {fr : Nat × Nat} : Rb (w.alloc (.cells (bcells l) t fr)) (w.heap.size + 1) (some ⟨w.heap.size, 0, none⟩) l :=
  .inr ⟨w.heap.size, 0, rfl, by omega, fun i hi => by rw [cell_of_row _ _ _ _ t fr (heap_alloc_new w _), Nat.zero_add, bcells_at l i hi]⟩

/-- One byte that has just been laid into a block of its own. -/
theorem Rb.one {w : World} {n : Nat} {t : TypeId} {c : UInt8} {v : Int} (hn : n = w.heap.size) (hv : v = (c.toNat : Int)) : Rb (w.alloc (.cells #[.int .u8 v] t)) (n + 1) (some ⟨n, 0, none⟩) [c] := by
  subst hv
  exact Rb.bk (t := t) (l := [c]) (Bk.here hn)

end Go.Proofs.Ytinjldjpncijjaa
