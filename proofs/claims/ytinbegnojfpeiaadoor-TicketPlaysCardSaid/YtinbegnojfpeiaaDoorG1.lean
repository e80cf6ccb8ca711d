/- Base, QuM, TcM, Word: texts of this seat, one behind the other. -/
import Derived.WalkKit
import Derived.WalkSpells
import Derived.WalkLawsBesides
import Derived.Lib.Hide
import Derived.Handy
import Derived.Laws.BytesArg
/- Words for memory that all texts of this seat use: a block that is known whole, bytes that a slice reads as. Nothing of the program is named here. -/
namespace Go.Proofs.YtinbegnojfpeiaaDoor
set_option linter.unusedVariables false
set_option maxRecDepth 100000
set_option linter.unusedSimpArgs false
open Go.RowKit

/-- One byte as a value. -/
abbrev u8 (c : UInt8) : Value := .int .u8 (c.toNat : Int)

/-- Block g is the cells cs of type t, none of them frozen. -/
def Bk (w : World) (g : Nat) (t : TypeId) (cs : Array Value) : Prop := w.heap[g]? = some (.cells cs t (0, 0))

theorem Bk.lt {w : World} {g : Nat} {t : TypeId} {cs : Array Value} (h : Bk w g t cs) : g < w.heap.size := lt_of_block h
theorem Bk.cell {w : World} {g : Nat} {t : TypeId} {cs : Array Value} (h : Bk w g t cs) (i : Nat) : w.cell? ⟨g, i, none⟩ = cs[i]? := cell_of_row w g i cs t (0, 0) h
theorem Bk.frozen {w : World} {g : Nat} {t : TypeId} {cs : Array Value} (h : Bk w g t cs) (i : Nat) : w.frozen? ⟨g, i, none⟩ = false := frozen_of_row w g i cs t h
theorem Bk.new (w : World) (t : TypeId) (cs : Array Value) : Bk (w.alloc (.cells cs t)) w.heap.size t cs := heap_alloc_new w _
theorem Bk.here {w : World} {t : TypeId} {cs : Array Value} {n : Nat} (h : n = w.heap.size) : Bk (w.alloc (.cells cs t)) n t cs := by subst h; exact Bk.new w t cs
theorem Bk.drewN {w : World} {g : Nat} {t : TypeId} {cs : Array Value} (h : Bk w g t cs) (n : Nat) : Bk (w.drewN n) g t cs := h
theorem Bk.drew {w : World} {g : Nat} {t : TypeId} {cs : Array Value} (h : Bk w g t cs) : Bk w.drew g t cs := h
theorem Bk.alloc {w : World} {g : Nat} {t : TypeId} {cs : Array Value} (h : Bk w g t cs) (o : Obj) : Bk (w.alloc o) g t cs := (Below.heap_alloc w o g h.lt).trans h
theorem Bk.set {w : World} {g : Nat} {t : TypeId} {cs : Array Value} (h : Bk w g t cs) (i : Nat) (u : Value) : Bk (w.setCell ⟨g, i, none⟩ u) g t (cs.setIfInBounds i u) :=
  heap_setCell_same w g i cs t u h
theorem Bk.far {w : World} {g : Nat} {t : TypeId} {cs : Array Value} (h : Bk w g t cs) {p : Addr} (hp : g ≠ p.block) (u : Value) : Bk (w.setCell p u) g t cs := (heap_setCell_other w p g u hp).trans h
theorem Bk.below {w w' : World} {B g : Nat} {t : TypeId} {cs : Array Value} (h : Bk w g t cs) (hb : Below B w w') (hg : g < B) : Bk w' g t cs := (hb.block g hg).trans h

/-- make([]byte, n): the world behind it written out. -/
theorem mk_bytes {P : Program} (w : World) (t e : TypeId) (ht : P.underlying t = some (.slice e)) (hi : (P.info? e).map (fun i => (i.zero, i.size, i.bytes)) = some (some (.int .u8 0), 1, 1)) (n : Nat) (hn : n ≤ 140737488355328) (cs : Array Value) (hcs : cs = Array.replicate n (.int .u8 0)) (kl kc : IntKind := .i64) :
    (Instr.makeSlice t (.int kl (n : Int)) (.int kc (n : Int))).run P w = .ok (.slice (some ⟨w.heap.size, 0, none⟩) n n) (w.alloc (.cells cs e)) := by
  obtain ⟨i, hi1, hz, hs, hb⟩ := info_parts hi
  have h := run_make (P := P) w t e i (.int .u8 0) ht hi1 hz kl kc n n (by omega) (by omega) (by rw [hb]; omega) (by omega)
  rw [h]
  have e1 : madeCells #[Value.int .u8 0] n = cs := by
    rw [hcs]; apply Array.ext'; rw [toList_madeCells_one]; simp
  simp [hs, Value.cells, e1]

/-- Bytes as cells. -/
def bcells (l : List UInt8) : Array Value := (l.map u8).toArray
theorem bcells_size (l : List UInt8) : (bcells l).size = l.length := by simp [bcells]
theorem bcells_at (l : List UInt8) (i : Nat) (h : i < l.length) : (bcells l)[i]? = some (.int .u8 ((l[i]).toNat : Int)) := by simp [bcells, h]

/-- The slice at A reads as the bytes l, and lies below block B. -/
def Rb (w : World) (B : Nat) (A : Option Addr) (l : List UInt8) : Prop :=
  l = [] ∨ ∃ b o, A = some ⟨b, o, none⟩ ∧ b < B ∧ ∀ i, (h : i < l.length) → w.cell? ⟨b, o + i, none⟩ = some (.int .u8 ((l[i]).toNat : Int))

theorem Rb.nil (w : World) (B : Nat) (A : Option Addr) : Rb w B A [] := .inl rfl
theorem Rb.below {w w' : World} {B B' : Nat} {A : Option Addr} {l : List UInt8} (h : Rb w B A l) (hb : Below B' w w') (hB : B ≤ B') : Rb w' B A l := by
  rcases h with h | ⟨b, o, e, hlt, hc⟩
  · exact .inl h
  · exact .inr ⟨b, o, e, hlt, fun i hi => (hb.cell (p := ⟨b, o + i, none⟩) (by show b < B'; omega)).trans (hc i hi)⟩
theorem Rb.more {w : World} {B B' : Nat} {A : Option Addr} {l : List UInt8} (h : Rb w B A l) (hB : B ≤ B') : Rb w B' A l := by
  rcases h with h | ⟨b, o, e, hlt, hc⟩
  · exact .inl h
  · exact .inr ⟨b, o, e, by omega, hc⟩
theorem Rb.bk {w : World} {g : Nat} {t : TypeId} {l : List UInt8} (h : Bk w g t (bcells l)) : Rb w (g + 1) (some ⟨g, 0, none⟩) l :=
  .inr ⟨g, 0, rfl, by omega, fun i hi => by rw [h.cell, Nat.zero_add, bcells_at l i hi]⟩
theorem Rb.new (w : World) (t : TypeId) (l : List UInt8) : Rb (w.alloc (.cells (bcells l) t)) (w.heap.size + 1) (some ⟨w.heap.size, 0, none⟩) l := Rb.bk (Bk.new w t _)

theorem strOfNums_u8 (l : List UInt8) : strOfNums (l.map fun c => (c.toNat : Int)) = ⟨l.toArray⟩ := by
  have h := strOfNums_data (l.map fun c => (c.toNat : Int))
  have e : (strOfNums (l.map fun c => (c.toNat : Int))).data = l.toArray := by
    apply Array.ext'
    rw [h, List.map_map]
    have e0 : ((fun n : Int => UInt8.ofNat n.toNat) ∘ fun c : UInt8 => (c.toNat : Int)) = id := by funext c; simp
    rw [e0, List.map_id]
  cases hs : strOfNums (l.map fun c => (c.toNat : Int)) with
  | mk d => rw [hs] at e; simp at e; rw [e]

/-- string(b). -/
theorem str_of {P : Program} {w : World} {B : Nat} {A : Option Addr} {l : List UInt8} (h : Rb w B A l) (src e dst : TypeId) (hs : P.underlying src = some (.slice e)) (he : P.underlying e = some (.int .u8)) (hd : P.underlying dst = some .string) (n cap : Nat) (hn : l.length = n) :
    (convert src dst (.slice A n cap)).run P w = .ok (.string ⟨l.toArray⟩) w := by
  subst hn
  by_cases h0 : l = []
  · subst h0
    cases A with
    | none => exact run_convert_bytes_nil w src e hs he 0 cap dst hd
    | some a =>
      rw [run_convert_bytes_string w src dst e _ _ _ hs he hd]
      have hl := run_loadCells_list (P := P) w a [] (fun j v hj => by simp at hj)
      exact (run_bytesToString (P := P) w a 0 cap [] (by simpa using hl)).trans rfl
  · rcases h with h | ⟨b, o, rfl, _, hc⟩
    · exact absurd h h0
    · have := run_convert_bytes_arg (P := P) w src e hs he b o l.length cap (l.map fun c => (c.toNat : Int)) (by simp) (fun i hi => by
        rw [hc i hi]; simp [List.getD, hi]) dst hd
      rw [this, strOfNums_u8]

end Go.Proofs.YtinbegnojfpeiaaDoor

/- The queue: what the document asks, as Lean functions. (Begun in round 13, ahead of the landing: nothing of the program is named here.) -/
namespace Go.Proofs.YtinbegnojfpeiaaDoor
set_option linter.unusedVariables false
set_option maxRecDepth 100000
set_option linter.unusedSimpArgs false

/-- One that waits: for which name, and its number. -/
structure Qn where
  nm : ByteArray
  id : Int
/-- Are the names one? -/
def nmQ (a b : ByteArray) : Bool := a.toList == b.toList
theorem nmQ_iff (a b : ByteArray) : nmQ a b = true ↔ a = b := by
  unfold nmQ
  rw [beq_iff_eq]
  constructor
  · intro h
    rw [ByteArray.toList_eq, ByteArray.toList_eq] at h
    cases a; cases b
    simp only [Array.toList_inj] at h
    rw [h]
  · rintro rfl; rfl
theorem nmQ_same (a : ByteArray) : nmQ a a = true := (nmQ_iff a a).2 rfl
def whQ (q : List Qn) (id : Int) : Option Qn := q.find? fun x => x.id == id
def liQ (q : List Qn) (s : ByteArray) : List Int := (q.filter fun x => nmQ x.nm s).map (·.id)
def outQ (q : List Qn) (id : Int) : List Qn := q.filter fun x => x.id != id
def puQ (q : List Qn) (s : ByteArray) (id : Int) : Int × List Qn :=
  if (whQ q id).isSome = true then (4, q) else if (decide (8 ≤ (liQ q s).length) || decide (64 ≤ q.length)) = true then (2, q) else (0, q ++ [⟨s, id⟩])
def drQ (q : List Qn) (id : Int) : Bool × List Qn := ((whQ q id).isSome, outQ q id)
def tkQ (q : List Qn) (s : ByteArray) : Int × Bool × List Qn :=
  match liQ q s with
  | [] => (0, false, q)
  | a :: _ => (a, true, outQ q a)
/-- A queue that is right. -/
structure Qg (q : List Qn) : Prop where
  nd : (q.map (·.id)).Nodup
  few : q.length ≤ 64
  row : ∀ s, (liQ q s).length ≤ 8
theorem qg_nil : Qg [] := ⟨List.nodup_nil, by simp, fun _ => by simp [liQ]⟩
theorem wh_none {q : List Qn} {id : Int} (h : whQ q id = none) : id ∉ q.map (·.id) := fun hm => by
  obtain ⟨x, hx, e⟩ := List.mem_map.1 hm
  have := List.find?_eq_none.1 h x hx
  simp [e] at this
theorem wh_some {q : List Qn} {id : Int} {x : Qn} (h : whQ q id = some x) : x ∈ q ∧ x.id = id :=
  ⟨List.mem_of_find?_eq_some h, by have := List.find?_some h; simpa using this⟩
theorem wh_of {q : List Qn} {x : Qn} (h : (q.map (·.id)).Nodup) (hx : x ∈ q) : whQ q x.id = some x := by
  induction q with
  | nil => cases hx
  | cons y r ih =>
    rw [List.map_cons, List.nodup_cons] at h
    unfold whQ
    rw [List.find?_cons]
    rcases List.mem_cons.1 hx with rfl | hx
    · simp
    · have hne : (y.id == x.id) = false := by
        rw [beq_eq_false_iff_ne]
        exact fun e => h.1 (by rw [e]; exact List.mem_map.2 ⟨x, hx, rfl⟩)
      rw [hne]
      exact ih h.2 hx
theorem li_app (q : List Qn) (s t : ByteArray) (id : Int) : liQ (q ++ [⟨s, id⟩]) t = if nmQ s t = true then liQ q t ++ [id] else liQ q t := by
  unfold liQ
  rw [List.filter_append, List.filter_cons, List.filter_nil, List.map_append]
  split <;> simp_all
theorem li_out (q : List Qn) (s : ByteArray) (id : Int) : liQ (outQ q id) s = (liQ q s).filter (· != id) := by
  unfold liQ outQ
  rw [List.filter_filter, List.filter_map, List.filter_filter]
  congr 1
  apply List.filter_congr
  intro x _
  simp [Function.comp, Bool.and_comm]
theorem li_mem {q : List Qn} {s : ByteArray} {id : Int} (h : id ∈ liQ q s) : ∃ x ∈ q, x.id = id ∧ x.nm = s := by
  obtain ⟨x, hx, e⟩ := List.mem_map.1 h
  obtain ⟨h1, h2⟩ := List.mem_filter.1 hx
  exact ⟨x, h1, e, (nmQ_iff _ _).1 h2⟩
theorem li_nodup {q : List Qn} (h : (q.map (·.id)).Nodup) (s : ByteArray) : (liQ q s).Nodup :=
  List.Pairwise.sublist (List.Sublist.map _ List.filter_sublist) h
/-- Of another name nothing is dropped. -/
theorem li_far {q : List Qn} (h : (q.map (·.id)).Nodup) {s t : ByteArray} {id : Int} (hm : id ∈ liQ q s) (hn : s ≠ t) : liQ (outQ q id) t = liQ q t := by
  rw [li_out]
  refine List.filter_eq_self.2 fun a ha => ?_
  obtain ⟨x, hx, e1, e2⟩ := li_mem hm
  obtain ⟨y, hy, e3, e4⟩ := li_mem ha
  rw [bne_iff_ne]
  intro e
  have h1 := wh_of h hx
  have h2 := wh_of h hy
  rw [e1] at h1
  rw [e3, e] at h2
  rw [h1] at h2
  injection h2 with h2
  exact hn (by rw [← e2, h2, e4])
theorem li_tail {q : List Qn} (h : (q.map (·.id)).Nodup) {s : ByteArray} {a : Int} {r : List Int} (e : liQ q s = a :: r) : liQ (outQ q a) s = r := by
  have hn := li_nodup h s
  rw [li_out, e]
  rw [e, List.nodup_cons] at hn
  rw [List.filter_cons, if_neg (by simp)]
  exact List.filter_eq_self.2 fun b hb => by rw [bne_iff_ne]; rintro rfl; exact hn.1 hb
theorem out_same {q : List Qn} {id : Int} (h : whQ q id = none) : outQ q id = q :=
  List.filter_eq_self.2 fun x hx => by
    rw [bne_iff_ne]
    rintro rfl
    exact wh_none h (List.mem_map.2 ⟨x, hx, rfl⟩)
theorem qg_out {q : List Qn} (h : Qg q) (id : Int) : Qg (outQ q id) :=
  ⟨List.Pairwise.sublist (List.Sublist.map _ List.filter_sublist) h.nd, Nat.le_trans (List.length_filter_le _ _) h.few, fun s => by rw [li_out]; exact Nat.le_trans (List.length_filter_le _ _) (h.row s)⟩
theorem qg_put {q : List Qn} (h : Qg q) (s : ByteArray) (id : Int) : Qg (puQ q s id).2 := by
  unfold puQ
  split
  · exact h
  · rename_i h1
    split
    · exact h
    · rename_i h2
      simp only [Bool.or_eq_true, decide_eq_true_eq, not_or, Nat.not_le] at h2
      have h3 : whQ q id = none := by cases hw : whQ q id with
        | none => rfl
        | some x => rw [hw] at h1; exact absurd rfl h1
      refine ⟨?_, by rw [List.length_append]; exact h2.2, fun t => ?_⟩
      · rw [List.map_append, List.map_cons, List.map_nil, List.nodup_append]
        exact ⟨h.nd, by simp, fun a ha b hb e => by
          rw [List.mem_singleton] at hb
          subst hb; subst e
          exact wh_none h3 ha⟩
      · show (liQ (q ++ [⟨s, id⟩]) t).length ≤ 8
        rw [li_app]
        split
        · rename_i hst
          rw [nmQ_iff] at hst
          subst hst
          rw [List.length_append]
          exact h2.1
        · exact h.row t
theorem qg_take {q : List Qn} (h : Qg q) (s : ByteArray) : Qg (tkQ q s).2.2 := by
  unfold tkQ
  split
  · exact h
  · exact qg_out h _
theorem out_len {q : List Qn} (h : (q.map (·.id)).Nodup) {x : Qn} (hx : x ∈ q) : (outQ q x.id).length + 1 = q.length := by
  induction q with
  | nil => cases hx
  | cons y r ih =>
    rw [List.map_cons, List.nodup_cons] at h
    unfold outQ
    rw [List.filter_cons]
    by_cases e : y.id = x.id
    · rw [if_neg (by simp [e])]
      have hs : outQ r x.id = r := List.filter_eq_self.2 fun z hz => by
        rw [bne_iff_ne]
        intro e2
        exact h.1 (by rw [e, ← e2]; exact List.mem_map.2 ⟨z, hz, rfl⟩)
      show (outQ r x.id).length + 1 = _
      rw [hs]; rfl
    · rw [if_pos (by simp [e])]
      rcases List.mem_cons.1 hx with rfl | hx
      · exact absurd rfl e
      · have := ih h.2 hx
        show (outQ r x.id).length + 1 + 1 = r.length + 1
        omega
end Go.Proofs.YtinbegnojfpeiaaDoor

/- Tickets: what the document asks, as Lean functions. (Begun in round 14, ahead of the landing: nothing of the program is named here.) -/
namespace Go.Proofs.YtinbegnojfpeiaaDoor
set_option linter.unusedVariables false
set_option maxRecDepth 100000
set_option linter.unusedSimpArgs false

/-- A pass. -/
structure Ps where
  vis : Int
  nm : ByteArray
  ten : ByteArray
  ep : Int
/-- A good ticket. -/
structure Tk5 where
  tx : ByteArray
  p : Ps
/-- A book: its serial, its good tickets. -/
structure Bt where
  se : Int
  l : List Tk5
def zeroPs : Ps := ⟨0, ⟨#[]⟩, ⟨#[]⟩, 0⟩
def visT (v : Int) (x : Tk5) : Bool := x.p.vis == v
def texT (s : ByteArray) (x : Tk5) : Bool := nmQ x.tx s
/-- t: the text of each serial. -/
def issT (b : Bt) (p : Ps) (t : Int → ByteArray) : ByteArray × Int × Bt :=
  if b.l.any (visT p.vis) = true then (⟨#[]⟩, 4, b) else if 64 ≤ b.l.length then (⟨#[]⟩, 2, b) else (t (b.se + 1), 0, ⟨b.se + 1, b.l ++ [⟨t (b.se + 1), p⟩]⟩)
def redT (b : Bt) (s ten : ByteArray) : Ps × Int × Bt :=
  match b.l.find? (texT s) with
  | none => (zeroPs, 151, b)
  | some x => if nmQ x.p.ten ten = true then (x.p, 0, ⟨b.se, b.l.eraseP (texT s)⟩) else (zeroPs, 131, b)
def voiT (b : Bt) (v : Int) : Bool × Bt := (b.l.any (visT v), ⟨b.se, b.l.eraseP (visT v)⟩)
/-- A book that is right. -/
structure Gk (b : Bt) : Prop where
  nd : (b.l.map (·.p.vis)).Nodup
  few : b.l.length ≤ 64
  s0 : 0 ≤ b.se
theorem gk_nil : Gk ⟨0, []⟩ := ⟨List.nodup_nil, by simp, Int.le_refl _⟩
theorem any_vis {l : List Tk5} {v : Int} : l.any (visT v) = true ↔ v ∈ l.map (·.p.vis) := by
  rw [List.any_eq_true, List.mem_map]
  unfold visT
  constructor
  · rintro ⟨x, hx, e⟩; exact ⟨x, hx, by simpa using e⟩
  · rintro ⟨x, hx, e⟩; exact ⟨x, hx, by simpa using e⟩
theorem iss_cases (b : Bt) (p : Ps) (t : Int → ByteArray) :
    (b.l.any (visT p.vis) = true ∧ issT b p t = (⟨#[]⟩, 4, b)) ∨
    (b.l.any (visT p.vis) = false ∧ 64 ≤ b.l.length ∧ issT b p t = (⟨#[]⟩, 2, b)) ∨
    (b.l.any (visT p.vis) = false ∧ b.l.length < 64 ∧ issT b p t = (t (b.se + 1), 0, ⟨b.se + 1, b.l ++ [⟨t (b.se + 1), p⟩]⟩)) := by
  unfold issT
  cases h : b.l.any (visT p.vis) with
  | true => exact .inl ⟨rfl, rfl⟩
  | false =>
    by_cases h2 : 64 ≤ b.l.length
    · exact .inr (.inl ⟨rfl, h2, by simp [h2]⟩)
    · exact .inr (.inr ⟨rfl, by omega, by simp [h2]⟩)
/-- The first one that fits, taken out. -/
theorem erase_at {α : Type} {p : α → Bool} : ∀ {l : List α} {i : Nat} {x : α}, l[i]? = some x → (∀ y ∈ l.take i, p y = false) → p x = true → l.eraseP p = l.take i ++ l.drop (i + 1) ∧ l.find? p = some x
  | [], i, x, h, _, _ => by simp at h
  | a :: r, 0, x, h, _, hx => by
    simp at h
    subst h
    simp [List.eraseP_cons, hx]
  | a :: r, i + 1, x, h, h0, hx => by
    have ha : p a = false := h0 a (by simp)
    have := erase_at (l := r) (i := i) (x := x) (by simpa using h) (fun y hy => h0 y (by simp [hy])) hx
    simp [List.eraseP_cons, ha, this.1, this.2]
theorem erase_no {α : Type} {p : α → Bool} {l : List α} (h : ∀ y ∈ l, p y = false) : l.eraseP p = l ∧ l.find? p = none := by
  refine ⟨List.eraseP_of_forall_not (fun y hy => by rw [h y hy]; simp), List.find?_eq_none.2 (fun y hy => by rw [h y hy]; simp)⟩
theorem gk_erase {b : Bt} (h : Gk b) (p : Tk5 → Bool) : Gk ⟨b.se, b.l.eraseP p⟩ :=
  ⟨List.Pairwise.sublist (List.Sublist.map _ List.eraseP_sublist) h.nd, Nat.le_trans List.length_eraseP_le h.few, h.s0⟩
theorem gk_iss {b : Bt} (h : Gk b) (p : Ps) (t : Int → ByteArray) : Gk (issT b p t).2.2 := by
  rcases iss_cases b p t with ⟨_, e⟩ | ⟨_, _, e⟩ | ⟨h1, h2, e⟩
  · rw [e]; exact h
  · rw [e]; exact h
  · rw [e]
    refine ⟨?_, by simp; omega, by have := h.s0; show 0 ≤ b.se + 1; omega⟩
    rw [List.map_append, List.map_cons, List.map_nil, List.nodup_append]
    refine ⟨h.nd, by simp, fun a ha c hc e2 => ?_⟩
    rw [List.mem_singleton] at hc
    subst hc; subst e2
    have : b.l.any (visT p.vis) = true := any_vis.2 ha
    rw [h1] at this
    cases this
theorem gk_red {b : Bt} (h : Gk b) (s ten : ByteArray) : Gk (redT b s ten).2.2 := by
  unfold redT
  split
  · exact h
  · split
    · exact gk_erase h _
    · exact h
theorem gk_voi {b : Bt} (h : Gk b) (v : Int) : Gk (voiT b v).2 := gk_erase h _
theorem voi_no {b : Bt} {v : Int} (h : b.l.any (visT v) = false) : voiT b v = (false, b) := by
  unfold voiT
  rw [h, (erase_no (fun y hy => by rw [List.any_eq_false] at h; simpa using h y hy)).1]
theorem erase_vis {l : List Tk5} (h : (l.map (·.p.vis)).Nodup) (v : Int) : l.eraseP (visT v) = l.filter fun x => !visT v x := by
  induction l with
  | nil => rfl
  | cons a r ih =>
    rw [List.map_cons, List.nodup_cons] at h
    rw [List.eraseP_cons, List.filter_cons]
    cases ha : visT v a with
    | true =>
      have : a.p.vis = v := by unfold visT at ha; simpa using ha
      simp only [if_true, Bool.not_true, Bool.false_eq_true, if_false]
      exact (List.filter_eq_self.2 fun x hx => by
        cases hv : visT v x with
        | false => rfl
        | true =>
          have h2 : x.p.vis = v := by unfold visT at hv; simpa using hv
          exact absurd (List.mem_map.2 ⟨x, hx, by rw [h2, this]⟩) h.1).symm
    | false =>
      simp only [Bool.false_eq_true, if_false, Bool.not_false, if_true]
      rw [ih h.2]
      rfl
theorem voi_gone {b : Bt} (h : Gk b) (v : Int) : (voiT b v).2.l.any (visT v) = false := by
  unfold voiT
  dsimp only
  rw [erase_vis h.nd, List.any_eq_false]
  intro x hx
  have := (List.mem_filter.1 hx).2
  simpa using this
theorem red_cases (b : Bt) (s ten : ByteArray) :
    ((∀ y ∈ b.l, texT s y = false) ∧ redT b s ten = (zeroPs, 151, b)) ∨
    (∃ x, b.l.find? (texT s) = some x ∧ nmQ x.p.ten ten = false ∧ redT b s ten = (zeroPs, 131, b)) ∨
    (∃ x, b.l.find? (texT s) = some x ∧ nmQ x.p.ten ten = true ∧ redT b s ten = (x.p, 0, ⟨b.se, b.l.eraseP (texT s)⟩)) := by
  unfold redT
  cases hf : b.l.find? (texT s) with
  | none =>
    exact .inl ⟨fun y hy => by simpa using List.find?_eq_none.1 hf y hy, rfl⟩
  | some x =>
    cases ht : nmQ x.p.ten ten with
    | false => exact .inr (.inl ⟨x, rfl, ht, by dsimp only; rw [if_neg (by rw [ht]; simp)]⟩)
    | true => exact .inr (.inr ⟨x, rfl, ht, by dsimp only; rw [if_pos ht]⟩)

/- TicketVoid: how many of a text are left. -/
def cntT (l : List Tk5) (s : ByteArray) : Nat := l.countP (texT s)
theorem cnt_erase {s t : ByteArray} : ∀ {l : List Tk5}, cntT (l.eraseP (texT s)) t = if nmQ s t = true then cntT l t - 1 else cntT l t
  | [] => by simp [cntT]
  | a :: r => by
    have ih := cnt_erase (s := s) (t := t) (l := r)
    unfold cntT at ih ⊢
    rw [List.eraseP_cons]
    by_cases hst : nmQ s t = true
    · have : s = t := (nmQ_iff _ _).1 hst
      subst this
      rw [if_pos hst] at ih ⊢
      cases ha : texT s a with
      | true => simp [List.countP_cons, ha]
      | false => simp [List.countP_cons, ha]; simpa using ih
    · rw [if_neg hst] at ih ⊢
      cases ha : texT s a with
      | true =>
        have hb : texT t a = false := by
          cases hb : texT t a with
          | false => rfl
          | true =>
            unfold texT at ha hb
            rw [nmQ_iff] at ha hb
            exact absurd ((nmQ_iff _ _).2 (ha.symm.trans hb)) hst
        simp [List.countP_cons, hb]
      | false => simp [List.countP_cons]; simpa using ih
/-- Each told text is shown once: then none is left. -/
def shT (l : List Tk5) : List ByteArray → List Tk5
  | [] => l
  | s :: r => shT (l.eraseP (texT s)) r
theorem cnt_sh {t : ByteArray} : ∀ {ts : List ByteArray} {l : List Tk5}, cntT (shT l ts) t = cntT l t - ts.countP (fun s => nmQ s t)
  | [], l => by simp [shT]
  | s :: r, l => by
    unfold shT
    rw [cnt_sh (ts := r), cnt_erase, List.countP_cons]
    split <;> omega
theorem sh_all {ts : List ByteArray} {l : List Tk5} (h : ∀ t, cntT l t ≤ ts.countP (fun s => nmQ s t)) : shT l ts = [] := by
  cases hs : shT l ts with
  | nil => rfl
  | cons x r =>
    have h1 := cnt_sh (t := x.tx) (ts := ts) (l := l)
    have h2 := h x.tx
    rw [hs] at h1
    have h3 : 0 < cntT (x :: r) x.tx := by
      unfold cntT
      rw [List.countP_pos_iff]
      exact ⟨x, List.mem_cons_self .., by unfold texT; exact nmQ_same _⟩
    omega
theorem sh_snoc (s : ByteArray) : ∀ (ts : List ByteArray) (l : List Tk5), shT l (ts ++ [s]) = (shT l ts).eraseP (texT s)
  | [], l => rfl
  | a :: r, l => by
    show shT (l.eraseP (texT a)) (r ++ [s]) = (shT (l.eraseP (texT a)) r).eraseP (texT s)
    exact sh_snoc s r _
theorem cnt_told (l : List Tk5) (t : ByteArray) : cntT l t = (l.map (·.tx)).countP (fun s => nmQ s t) := by
  unfold cntT
  rw [List.countP_map]
  rfl
theorem cnt_less {l : List Tk5} (p : Tk5 → Bool) (t : ByteArray) : cntT (l.eraseP p) t ≤ cntT l t := List.Sublist.countP_le List.eraseP_sublist

/- TicketOnce: what was told, and what of it is good still. -/
structure On5 where
  tx : ByteArray
  p : Ps
  ok : Bool
def goodL (E : List On5) : List Tk5 := (E.filter (·.ok)).map fun e => ⟨e.tx, e.p⟩
def hitO (s : ByteArray) (e : On5) : Bool := e.ok && nmQ e.tx s
theorem good_any (E : List On5) (s : ByteArray) : (∀ y ∈ goodL E, texT s y = false) ↔ ∀ e ∈ E, hitO s e = false := by
  unfold goodL hitO texT
  constructor
  · intro h e he
    cases ho : e.ok with
    | false => rfl
    | true =>
      have := h ⟨e.tx, e.p⟩ (List.mem_map.2 ⟨e, List.mem_filter.2 ⟨he, ho⟩, rfl⟩)
      simpa using this
  · intro h y hy
    obtain ⟨e, he, rfl⟩ := List.mem_map.1 hy
    obtain ⟨h1, h2⟩ := List.mem_filter.1 he
    have := h e h1
    rw [h2] at this
    simpa using this
theorem goodL_app (E F : List On5) : goodL (E ++ F) = goodL E ++ goodL F := by
  unfold goodL
  rw [List.filter_append, List.map_append]
/-- The first one that fits: the document finds it too. -/
theorem good_at {E : List On5} {s : ByteArray} {k : Nat} {e : On5} (h : E[k]? = some e) (h0 : ∀ y ∈ E.take k, hitO s y = false) (he : hitO s e = true) :
    (goodL E).find? (texT s) = some ⟨e.tx, e.p⟩ ∧ goodL (E.set k ⟨e.tx, e.p, false⟩) = (goodL E).eraseP (texT s) := by
  obtain ⟨hk, hke⟩ := List.getElem?_eq_some_iff.1 h
  have hok : e.ok = true := by unfold hitO at he; simp at he; exact he.1
  have htx : nmQ e.tx s = true := by unfold hitO at he; simp at he; exact he.2
  have e1 : E = E.take k ++ e :: E.drop (k + 1) := by rw [← hke, ← List.drop_eq_getElem_cons hk, List.take_append_drop]
  have e2 : E.set k ⟨e.tx, e.p, false⟩ = E.take k ++ ⟨e.tx, e.p, false⟩ :: E.drop (k + 1) := by
    rw [List.set_eq_take_append_cons_drop, if_pos hk]
  have g1 : goodL E = goodL (E.take k) ++ ⟨e.tx, e.p⟩ :: goodL (E.drop (k + 1)) := by
    conv => lhs; rw [e1]
    rw [goodL_app]
    congr 1
    unfold goodL
    rw [List.filter_cons, if_pos hok, List.map_cons]
  have g2 : goodL (E.set k ⟨e.tx, e.p, false⟩) = goodL (E.take k) ++ goodL (E.drop (k + 1)) := by
    rw [e2, goodL_app]
    congr 1
  have hno := (good_any (E.take k) s).2 h0
  rw [g2, g1, List.eraseP_append_right _ (fun y hy => by rw [hno y hy]; simp), List.eraseP_cons]
  constructor
  · rw [List.find?_append, (erase_no hno).2, List.find?_cons, show texT s ⟨e.tx, e.p⟩ = true from htx]
    rfl
  · rw [show texT s ⟨e.tx, e.p⟩ = true from htx]; rfl
/-- Void's loop. -/
def offO (v : Int) (e : On5) : On5 := if (e.ok && e.p.vis == v) = true then ⟨e.tx, e.p, false⟩ else e
theorem good_off (E : List On5) (v : Int) : goodL (E.map (offO v)) = (goodL E).filter fun x => !visT v x := by
  induction E with
  | nil => rfl
  | cons a r ih =>
    have h1 : goodL ((a :: r).map (offO v)) = goodL [offO v a] ++ goodL (r.map (offO v)) := by rw [← goodL_app]; rfl
    have h2 : goodL (a :: r) = goodL [a] ++ goodL r := by rw [← goodL_app]; rfl
    rw [h1, h2, List.filter_append, ih]
    congr 1
    obtain ⟨tx, p, ok⟩ := a
    unfold offO goodL visT
    cases ok with
    | false => simp
    | true =>
      by_cases hv : p.vis = v
      · simp [hv]
      · simp [hv]
end Go.Proofs.YtinbegnojfpeiaaDoor

/- Words of 32 bits as plain numbers, and the sum of bytes over them: what the document asks (SHA-256), as Lean functions. Nothing of the program is named here. -/
namespace Go.Proofs.YtinbegnojfpeiaaDoor
set_option linter.unusedVariables false
set_option maxRecDepth 100000
set_option linter.unusedSimpArgs false

def wadd (a b : Nat) : Nat := (a + b) % 4294967296
def wxor (a b : Nat) : Nat := (a ^^^ b) % 4294967296
def wand (a b : Nat) : Nat := (a &&& b) % 4294967296
def wor (a b : Nat) : Nat := (a ||| b) % 4294967296
def wnot (a : Nat) : Nat := 4294967295 - a % 4294967296
def wshl (a n : Nat) : Nat := (a * 2 ^ n) % 4294967296
def wshr (a n : Nat) : Nat := (a % 4294967296) / 2 ^ n
/-- Turned to the right. -/
def rotr (x n : Nat) : Nat := wor (wshr x n) (wshl x (32 - n))
def great (x a b c : Nat) : Nat := wxor (wxor (rotr x a) (rotr x b)) (rotr x c)
def small (x a b c : Nat) : Nat := wxor (wxor (rotr x a) (rotr x b)) (wshr x c)

def H0 : List Nat := [0x6a09e667, 0xbb67ae85, 0x3c6ef372, 0xa54ff53a, 0x510e527f, 0x9b05688c, 0x1f83d9ab, 0x5be0cd19]
def KK : List Nat := [
  0x428a2f98, 0x71374491, 0xb5c0fbcf, 0xe9b5dba5, 0x3956c25b, 0x59f111f1, 0x923f82a4, 0xab1c5ed5,
  0xd807aa98, 0x12835b01, 0x243185be, 0x550c7dc3, 0x72be5d74, 0x80deb1fe, 0x9bdc06a7, 0xc19bf174,
  0xe49b69c1, 0xefbe4786, 0x0fc19dc6, 0x240ca1cc, 0x2de92c6f, 0x4a7484aa, 0x5cb0a9dc, 0x76f988da,
  0x983e5152, 0xa831c66d, 0xb00327c8, 0xbf597fc7, 0xc6e00bf3, 0xd5a79147, 0x06ca6351, 0x14292967,
  0x27b70a85, 0x2e1b2138, 0x4d2c6dfc, 0x53380d13, 0x650a7354, 0x766a0abb, 0x81c2c92e, 0x92722c85,
  0xa2bfe8a1, 0xa81a664b, 0xc24b8b70, 0xc76c51a3, 0xd192e819, 0xd6990624, 0xf40e3585, 0x106aa070,
  0x19a4c116, 0x1e376c08, 0x2748774c, 0x34b0bcb5, 0x391c0cb3, 0x4ed8aa4a, 0x5b9cca4f, 0x682e6ff3,
  0x748f82ee, 0x78a5636f, 0x84c87814, 0x8cc70208, 0x90befffa, 0xa4506ceb, 0xbef9a3f7, 0xc67178f2]

/-- Eight words: a to h, or H0 to H7. -/
structure St where
  a : Nat
  b : Nat
  c : Nat
  d : Nat
  e : Nat
  f : Nat
  g : Nat
  h : Nat

/-- One byte of a row as a number; 0 behind its end. -/
def byteAt (l : List UInt8) (i : Nat) : Nat := (l.getD i 0).toNat
/-- A word of four bytes, the highest first. -/
def wordAt (l : List UInt8) (p : Nat) : Nat := wor (wor (wor (wshl (byteAt l p) 24) (wshl (byteAt l (p + 1)) 16)) (wshl (byteAt l (p + 2)) 8)) (byteAt l (p + 3))
/-- The sixteen words of the block that begins at p. -/
def words16 (l : List UInt8) (p : Nat) : List Nat := (List.range 16).map fun i => wordAt l (p + 4 * i)
/-- One word more of a schedule. -/
def nextW (l : List Nat) : Nat :=
  wadd (wadd (wadd (small (l.getD (l.length - 2) 0) 17 19 10) (l.getD (l.length - 7) 0)) (small (l.getD (l.length - 15) 0) 7 18 3)) (l.getD (l.length - 16) 0)
def schedL (l : List Nat) : Nat → List Nat
  | 0 => l
  | n + 1 => schedL l n ++ [nextW (schedL l n)]
def sched (l : List Nat) : List Nat := schedL l 48
def rX (s : St) (k w : Nat) : Nat := wadd (wadd (wadd (wadd s.h (great s.e 6 11 25)) (wxor (wand s.e s.f) (wand (wnot s.e) s.g))) k) w
def rY (s : St) : Nat := wadd (great s.a 2 13 22) (wxor (wxor (wand s.a s.b) (wand s.a s.c)) (wand s.b s.c))
def round1 (s : St) (k w : Nat) : St := ⟨wadd (rX s k w) (rY s), s.a, s.b, s.c, wadd s.d (rX s k w), s.e, s.f, s.g⟩
def rounds (w : List Nat) (s : St) : Nat → St
  | 0 => s
  | n + 1 => round1 (rounds w s n) (KK.getD n 0) (w.getD n 0)
def addS (s t : St) : St := ⟨wadd s.a t.a, wadd s.b t.b, wadd s.c t.c, wadd s.d t.d, wadd s.e t.e, wadd s.f t.f, wadd s.g t.g, wadd s.h t.h⟩
def block1 (s : St) (w : List Nat) : St := addS s (rounds w s 64)
/-- The state behind n blocks of l. -/
def thr (s : St) (l : List UInt8) : Nat → St
  | 0 => s
  | n + 1 => block1 (thr s l n) (sched (words16 l (64 * n)))
def S0 : St := ⟨0x6a09e667, 0xbb67ae85, 0x3c6ef372, 0xa54ff53a, 0x510e527f, 0x9b05688c, 0x1f83d9ab, 0x5be0cd19⟩
/-- The eight bytes of a number of 64 bits, the highest first. -/
def be8 (n : Nat) : List UInt8 := (List.range 8).map fun i => UInt8.ofNat (n / 256 ^ (7 - i))
/-- How many blocks the bytes and what is put behind them make. -/
def nblk (n : Nat) : Nat := (n + 8) / 64 + 1
def pad (l : List UInt8) : List UInt8 := l ++ (128 :: List.replicate (64 * nblk l.length - 9 - l.length) 0) ++ be8 (8 * l.length)
def St.list (s : St) : List Nat := [s.a, s.b, s.c, s.d, s.e, s.f, s.g, s.h]
def outB (s : St) : List UInt8 := (List.range 32).map fun i => UInt8.ofNat ((s.list.getD (i / 4) 0) / 2 ^ (24 - 8 * (i % 4)))
def sum (l : List UInt8) : List UInt8 := outB (thr S0 (pad l) (nblk l.length))
set_option maxRecDepth 100000 in
theorem sum_nil : sum [] = [227, 176, 196, 66, 152, 252, 28, 20, 154, 251, 244, 200, 153, 111, 185, 36, 39, 174, 65, 228, 100, 155, 147, 76, 164, 149, 153, 27, 120, 82, 184, 85] := by decide +kernel
set_option maxRecDepth 100000 in
theorem sum_abc : sum [97, 98, 99] = [186, 120, 22, 191, 143, 1, 207, 234, 65, 65, 64, 222, 93, 174, 34, 35, 176, 3, 97, 163, 150, 23, 122, 156, 180, 16, 255, 97, 242, 0, 21, 173] := by decide +kernel

/-! How the walk spells them. -/
theorem w_add (x y : Nat) : IntKind.u32.wrap ((x : Int) + (y : Int)) = ((wadd x y : Nat) : Int) := by
  rw [IntKind.wrap_u32']; unfold wadd; omega
theorem v_add (x y : Nat) : ((x : Int) + (y : Int)) % 4294967296 = ((wadd x y : Nat) : Int) := by unfold wadd; omega
theorem v_shl (x n : Nat) : (x : Int) * 2 ^ n % 4294967296 = ((wshl x n : Nat) : Int) := by
  unfold wshl; rw [Int.natCast_emod, Int.natCast_mul, Int.natCast_pow]; rfl
theorem ofInt32 (a : Nat) : (BitVec.ofInt 32 (a : Int)).toNat = a % 4294967296 := by
  rw [BitVec.ofInt_natCast, BitVec.toNat_ofNat]
theorem xor_mod (a b : Nat) : (a % 4294967296) ^^^ (b % 4294967296) = (a ^^^ b) % 4294967296 := by
  have : (4294967296 : Nat) = 2 ^ 32 := rfl
  rw [this, Nat.xor_mod_two_pow]
theorem and_mod (a b : Nat) : (a % 4294967296) &&& (b % 4294967296) = (a &&& b) % 4294967296 := by
  have : (4294967296 : Nat) = 2 ^ 32 := rfl
  rw [this, Nat.and_mod_two_pow]
theorem or_mod (a b : Nat) : (a % 4294967296) ||| (b % 4294967296) = (a ||| b) % 4294967296 := by
  have : (4294967296 : Nat) = 2 ^ 32 := rfl
  rw [this, Nat.or_mod_two_pow]
theorem w_xor (x y : Nat) : bits .xor .u32 (x : Int) (y : Int) = ((wxor x y : Nat) : Int) := by
  show IntKind.u32.wrap ((BitVec.ofInt 32 (x : Int) ^^^ BitVec.ofInt 32 (y : Int)).toNat : Int) = _
  rw [BitVec.toNat_xor, ofInt32, ofInt32, xor_mod, IntKind.wrap_u32']; unfold wxor; omega
theorem w_and (x y : Nat) : bits .and .u32 (x : Int) (y : Int) = ((wand x y : Nat) : Int) := by
  show IntKind.u32.wrap ((BitVec.ofInt 32 (x : Int) &&& BitVec.ofInt 32 (y : Int)).toNat : Int) = _
  rw [BitVec.toNat_and, ofInt32, ofInt32, and_mod, IntKind.wrap_u32']; unfold wand; omega
theorem w_or (x y : Nat) : bits .or .u32 (x : Int) (y : Int) = ((wor x y : Nat) : Int) := by
  show IntKind.u32.wrap ((BitVec.ofInt 32 (x : Int) ||| BitVec.ofInt 32 (y : Int)).toNat : Int) = _
  rw [BitVec.toNat_or, ofInt32, ofInt32, or_mod, IntKind.wrap_u32']; unfold wor; omega
theorem all_xor (x : Nat) : 4294967295 ^^^ (x % 4294967296) = 4294967295 - x % 4294967296 := by
  have h : x % 4294967296 < 2 ^ 32 := Nat.mod_lt _ (by decide)
  have h1 := BitVec.toNat_not (x := BitVec.ofNat 32 (x % 4294967296))
  have h2 : ~~~(BitVec.ofNat 32 (x % 4294967296)) = BitVec.allOnes 32 ^^^ BitVec.ofNat 32 (x % 4294967296) := by
    rw [BitVec.allOnes_xor]
  rw [h2, BitVec.toNat_xor, BitVec.toNat_allOnes, BitVec.toNat_ofNat] at h1
  have e : x % 4294967296 % 2 ^ 32 = x % 4294967296 := Nat.mod_eq_of_lt h
  rw [e] at h1
  exact h1
theorem w_not (x : Nat) : bits .xor .u32 4294967295 (x : Int) = ((wnot x : Nat) : Int) := by
  show IntKind.u32.wrap ((BitVec.ofInt 32 ((4294967295 : Nat) : Int) ^^^ BitVec.ofInt 32 (x : Int)).toNat : Int) = _
  have e : 4294967295 % 4294967296 = 4294967295 := by decide
  rw [BitVec.toNat_xor, ofInt32, ofInt32, e, all_xor, IntKind.wrap_u32']; unfold wnot; omega
theorem w_shl (x n : Nat) (h : n ≤ 32) : IntKind.u32.wrap ((x : Int) * 2 ^ n) = ((wshl x n : Nat) : Int) := by
  rw [IntKind.wrap_u32']; unfold wshl; rw [Int.natCast_emod, Int.natCast_mul, Int.natCast_pow]; rfl
theorem w_shr (x n : Nat) (h : x < 4294967296) : (x : Int) / 2 ^ n = ((wshr x n : Nat) : Int) := by
  unfold wshr; rw [Nat.mod_eq_of_lt h, Int.natCast_ediv, Int.natCast_pow]; rfl
theorem wadd_lt (a b : Nat) : wadd a b < 4294967296 := Nat.mod_lt _ (by decide)
theorem wxor_lt (a b : Nat) : wxor a b < 4294967296 := Nat.mod_lt _ (by decide)
theorem wand_lt (a b : Nat) : wand a b < 4294967296 := Nat.mod_lt _ (by decide)
theorem wor_lt (a b : Nat) : wor a b < 4294967296 := Nat.mod_lt _ (by decide)
theorem wnot_lt (a : Nat) : wnot a < 4294967296 := by unfold wnot; omega
theorem wshl_lt (a b : Nat) : wshl a b < 4294967296 := Nat.mod_lt _ (by decide)
theorem wshr_lt (a b : Nat) : wshr a b < 4294967296 := Nat.lt_of_le_of_lt (Nat.div_le_self _ _) (Nat.mod_lt _ (by decide))
theorem rotr_lt (x n : Nat) : rotr x n < 4294967296 := wor_lt _ _
theorem great_lt (x a b c : Nat) : great x a b c < 4294967296 := wxor_lt _ _
theorem small_lt (x a b c : Nat) : small x a b c < 4294967296 := wxor_lt _ _
theorem wor_comm (a b : Nat) : wor a b = wor b a := by unfold wor; rw [Nat.or_comm]
theorem words16_len (l : List UInt8) (p : Nat) : (words16 l p).length = 16 := by
  unfold words16; rw [List.length_map, List.length_range]
theorem words16_at (l : List UInt8) (p i : Nat) (hi : i < 16) : (words16 l p).getD i 0 = wordAt l (p + 4 * i) := by
  unfold words16
  have h : (List.range 16)[i]? = some i := by rw [List.getElem?_range hi]
  rw [List.getD, List.getElem?_map, h, Option.map_some, Option.getD_some]
/-- A word as a value. -/
abbrev wd (x : Nat) : Value := .int .u32 (x : Int)
end Go.Proofs.YtinbegnojfpeiaaDoor
