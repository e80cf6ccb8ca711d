/- PuR, QuM, TcM, Hmf, Numb, RdrS, Parse, FoldM, ParMath, SynM, Syn1, Sidx, Syn3: texts of this seat, one behind the other. -/
import Derived.Test.YtndamiocmdnenaaGreatG3
import Derived.Test.YtndamiocmdnenaaGreatRgRefF
import Derived.Test.YtndamiocmdnenaaGreatG1
import Derived.Laws.EntriesVeiled
import Derived.Test.YtndamiocmdnenaaGreatRows
import Derived.BigQuiet
import Derived.Deep.QuietTactic
import Derived.Lib.Bytealg
import Derived.Deep.RegionHeld3
import Derived.WalkKit
import Derived.Lib.Hide
/- The document's own pump: its memory; New, End, Over, Moved, Waits, Room, Break: their contracts. (Begun in round 16, ahead of the landing.) -/
namespace Go.Proofs.YtndamiocmdnenaaGreat
set_option linter.unusedVariables false
set_option maxRecDepth 100000
set_option linter.unusedSimpArgs false
open Go.RowKit

/-- Bytes lie in no block whose cells are none. -/
theorem Rf.far {u : World} {L : List Nat} {A : Option Addr} {l : List UInt8} {g : Nat} {t : TypeId} {cs : Array Value} (h : Rf u L A l) (hb : Bk u g t cs) (hc : ∀ (j : Nat) (v : Value), cs[j]? = some v → ∀ x : Int, v ≠ Value.int .u8 x) : Rf u (g :: L) A l := by
  by_cases h0 : l = []
  · exact .inl h0
  · rcases h with h1 | ⟨b, o, e, h1, h2, h3⟩
    · exact absurd h1 h0
    · refine .inr ⟨b, o, e, fun hm => ?_, h2, h3⟩
      rcases List.mem_cons.1 hm with rfl | hm
      · have h4 := h3 0 (List.length_pos_iff.2 h0)
        rw [hb.cell] at h4
        exact hc _ _ h4 _ rfl
      · exact h1 hm
theorem ref_no8 {A : Option Addr} {k c m : Nat} : ∀ (j : Nat) (v : Value), (refcells A k c m)[j]? = some v → ∀ x : Int, v ≠ Value.int .u8 x := by
  intro j v hv x e
  subst e
  match j with
  | 0 => simp [refcells] at hv
  | 1 => simp [refcells] at hv
  | j + 2 => simp [refcells] at hv
/-- The ring at s stays while another ring's block turns. -/
theorem Rs.off {u u' : World} {s m : Nat} {q : List UInt8} {A : Option Addr} {c : Nat} {g k2 c2 m2 : Nat} {A2 : Option Addr} {t : TypeId} (h : Rs u s m q A c) (hb : Bk u g t (refcells A2 k2 c2 m2)) (hne : s ≠ g) (k : Ke [g] u u') : Rs u' s m q A c :=
  ⟨h.bk.ke k (by simpa using hne), ((h.rd.far hb ref_no8).ke k (by simp)).less (fun x hx => List.mem_cons_of_mem _ hx), h.cap, h.max, h.nil_, h.fit, h.most⟩
abbrev ducells (p : Pu) (s0 s1 : Nat) : Array Value := #[.pointer (some ⟨s0, 0, none⟩), .bool p.a.en, .bool p.a.to, .int .i64 p.a.mv, .pointer (some ⟨s1, 0, none⟩), .bool p.b.en, .bool p.b.to, .int .i64 p.b.mv, .bool p.br]
theorem Rs.keB {u u' : World} {s m : Nat} {q : List UInt8} {A : Option Addr} {c : Nat} {L : List Nat} (h : Rs u s m q A c) (k : Ke L u u') (hs : s ∉ L) (hA : ∀ a, A = some a → a.block ∉ L) : Rs u' s m q A c := by
  refine ⟨h.bk.ke k hs, ?_, h.cap, h.max, h.nil_, h.fit, h.most⟩
  rcases h.rd with h0 | ⟨b, o, e, h1, h2, h3⟩
  · exact .inl h0
  · exact .inr ⟨b, o, e, h1, Nat.lt_of_lt_of_le h2 k.size, fun i hi => (World.cell?_of_block (w := u) (a := ⟨b, o + i, none⟩) (k.block b h2 (hA _ e))).trans (h3 i hi)⟩
def blkA (A : Option Addr) : List Nat := A.toList.map (·.block)
theorem mem_blkA {A : Option Addr} {y : Nat} : y ∈ blkA A ↔ ∃ a, A = some a ∧ a.block = y := by
  unfold blkA
  cases A <;> simp [eq_comm]
end Go.Proofs.YtndamiocmdnenaaGreat

/- The queue: what the document asks, as Lean functions. (Begun in round 13, ahead of the landing: nothing of the program is named here.) -/
namespace Go.Proofs.YtndamiocmdnenaaGreat
set_option linter.unusedVariables false
set_option maxRecDepth 100000
set_option linter.unusedSimpArgs false

/-- One that waits: for which name, and its number. -/
structure Qn where
  nm : ByteArray
  id : Int
/-- Are the names one? -/
def nmQ (a b : ByteArray) : Bool := a.toList == b.toList
theorem nmQ_iff (a b : ByteArray) : nmQ a b = true ↔ a = b := by
  unfold nmQ
  rw [beq_iff_eq]
  constructor
  · intro h
    rw [ByteArray.toList_eq, ByteArray.toList_eq] at h
    cases a; cases b
    simp only [Array.toList_inj] at h
    rw [h]
  · rintro rfl; rfl
theorem nmQ_same (a : ByteArray) : nmQ a a = true := (nmQ_iff a a).2 rfl
def whQ (q : List Qn) (id : Int) : Option Qn := q.find? fun x => x.id == id
def liQ (q : List Qn) (s : ByteArray) : List Int := (q.filter fun x => nmQ x.nm s).map (·.id)
def outQ (q : List Qn) (id : Int) : List Qn := q.filter fun x => x.id != id
def puQ (q : List Qn) (s : ByteArray) (id : Int) : Int × List Qn :=
  if (whQ q id).isSome = true then (4, q) else if (decide (8 ≤ (liQ q s).length) || decide (64 ≤ q.length)) = true then (2, q) else (0, q ++ [⟨s, id⟩])
def drQ (q : List Qn) (id : Int) : Bool × List Qn := ((whQ q id).isSome, outQ q id)
def tkQ (q : List Qn) (s : ByteArray) : Int × Bool × List Qn :=
  match liQ q s with
  | [] => (0, false, q)
  | a :: _ => (a, true, outQ q a)
/-- A queue that is right. -/
structure Qg (q : List Qn) : Prop where
  nd : (q.map (·.id)).Nodup
  few : q.length ≤ 64
  row : ∀ s, (liQ q s).length ≤ 8
theorem qg_nil : Qg [] := ⟨List.nodup_nil, by simp, fun _ => by simp [liQ]⟩
theorem wh_none {q : List Qn} {id : Int} (h : whQ q id = none) : id ∉ q.map (·.id) := fun hm => by
  obtain ⟨x, hx, e⟩ := List.mem_map.1 hm
  have := List.find?_eq_none.1 h x hx
  simp [e] at this
theorem wh_some {q : List Qn} {id : Int} {x : Qn} (h : whQ q id = some x) : x ∈ q ∧ x.id = id :=
  ⟨List.mem_of_find?_eq_some h, by have := List.find?_some h; simpa using this⟩
theorem wh_of {q : List Qn} {x : Qn} (h : (q.map (·.id)).Nodup) (hx : x ∈ q) : whQ q x.id = some x := by
  induction q with
  | nil => cases hx
  | cons y r ih =>
    rw [List.map_cons, List.nodup_cons] at h
    unfold whQ
    rw [List.find?_cons]
    rcases List.mem_cons.1 hx with rfl | hx
    · simp
    · have hne : (y.id == x.id) = false := by
        rw [beq_eq_false_iff_ne]
        exact fun e => h.1 (by rw [e]; exact List.mem_map.2 ⟨x, hx, rfl⟩)
      rw [hne]
      exact ih h.2 hx
theorem li_app (q : List Qn) (s t : ByteArray) (id : Int) : liQ (q ++ [⟨s, id⟩]) t = if nmQ s t = true then liQ q t ++ [id] else liQ q t := by
  unfold liQ
  rw [List.filter_append, List.filter_cons, List.filter_nil, List.map_append]
  split <;> simp_all
theorem li_out (q : List Qn) (s : ByteArray) (id : Int) : liQ (outQ q id) s = (liQ q s).filter (· != id) := by
  unfold liQ outQ
  rw [List.filter_filter, List.filter_map, List.filter_filter]
  congr 1
  apply List.filter_congr
  intro x _
  simp [Function.comp, Bool.and_comm]
theorem li_mem {q : List Qn} {s : ByteArray} {id : Int} (h : id ∈ liQ q s) : ∃ x ∈ q, x.id = id ∧ x.nm = s := by
  obtain ⟨x, hx, e⟩ := List.mem_map.1 h
  obtain ⟨h1, h2⟩ := List.mem_filter.1 hx
  exact ⟨x, h1, e, (nmQ_iff _ _).1 h2⟩
theorem li_nodup {q : List Qn} (h : (q.map (·.id)).Nodup) (s : ByteArray) : (liQ q s).Nodup :=
  List.Pairwise.sublist (List.Sublist.map _ List.filter_sublist) h
/-- Of another name nothing is dropped. -/
theorem li_far {q : List Qn} (h : (q.map (·.id)).Nodup) {s t : ByteArray} {id : Int} (hm : id ∈ liQ q s) (hn : s ≠ t) : liQ (outQ q id) t = liQ q t := by
  rw [li_out]
  refine List.filter_eq_self.2 fun a ha => ?_
  obtain ⟨x, hx, e1, e2⟩ := li_mem hm
  obtain ⟨y, hy, e3, e4⟩ := li_mem ha
  rw [bne_iff_ne]
  intro e
  have h1 := wh_of h hx
  have h2 := wh_of h hy
  rw [e1] at h1
  rw [e3, e] at h2
  rw [h1] at h2
  injection h2 with h2
  exact hn (by rw [← e2, h2, e4])
theorem li_tail {q : List Qn} (h : (q.map (·.id)).Nodup) {s : ByteArray} {a : Int} {r : List Int} (e : liQ q s = a :: r) : liQ (outQ q a) s = r := by
  have hn := li_nodup h s
  rw [li_out, e]
  rw [e, List.nodup_cons] at hn
  rw [List.filter_cons, if_neg (by simp)]
  exact List.filter_eq_self.2 fun b hb => by rw [bne_iff_ne]; rintro rfl; exact hn.1 hb
theorem out_same {q : List Qn} {id : Int} (h : whQ q id = none) : outQ q id = q :=
  List.filter_eq_self.2 fun x hx => by
    rw [bne_iff_ne]
    rintro rfl
    exact wh_none h (List.mem_map.2 ⟨x, hx, rfl⟩)
theorem qg_out {q : List Qn} (h : Qg q) (id : Int) : Qg (outQ q id) :=
  ⟨List.Pairwise.sublist (List.Sublist.map _ List.filter_sublist) h.nd, Nat.le_trans (List.length_filter_le _ _) h.few, fun s => by rw [li_out]; exact Nat.le_trans (List.length_filter_le _ _) (h.row s)⟩
theorem qg_put {q : List Qn} (h : Qg q) (s : ByteArray) (id : Int) : Qg (puQ q s id).2 := by
  unfold puQ
  split
  · exact h
  · rename_i h1
    split
    · exact h
    · rename_i h2
      simp only [Bool.or_eq_true, decide_eq_true_eq, not_or, Nat.not_le] at h2
      have h3 : whQ q id = none := by cases hw : whQ q id with
        | none => rfl
        | some x => rw [hw] at h1; exact absurd rfl h1
      refine ⟨?_, by rw [List.length_append]; exact h2.2, fun t => ?_⟩
      · rw [List.map_append, List.map_cons, List.map_nil, List.nodup_append]
        exact ⟨h.nd, by simp, fun a ha b hb e => by
          rw [List.mem_singleton] at hb
          subst hb; subst e
          exact wh_none h3 ha⟩
      · show (liQ (q ++ [⟨s, id⟩]) t).length ≤ 8
        rw [li_app]
        split
        · rename_i hst
          rw [nmQ_iff] at hst
          subst hst
          rw [List.length_append]
          exact h2.1
        · exact h.row t
theorem qg_take {q : List Qn} (h : Qg q) (s : ByteArray) : Qg (tkQ q s).2.2 := by
  unfold tkQ
  split
  · exact h
  · exact qg_out h _
theorem out_len {q : List Qn} (h : (q.map (·.id)).Nodup) {x : Qn} (hx : x ∈ q) : (outQ q x.id).length + 1 = q.length := by
  induction q with
  | nil => cases hx
  | cons y r ih =>
    rw [List.map_cons, List.nodup_cons] at h
    unfold outQ
    rw [List.filter_cons]
    by_cases e : y.id = x.id
    · rw [if_neg (by simp [e])]
      have hs : outQ r x.id = r := List.filter_eq_self.2 fun z hz => by
        rw [bne_iff_ne]
        intro e2
        exact h.1 (by rw [e, ← e2]; exact List.mem_map.2 ⟨z, hz, rfl⟩)
      show (outQ r x.id).length + 1 = _
      rw [hs]; rfl
    · rw [if_pos (by simp [e])]
      rcases List.mem_cons.1 hx with rfl | hx
      · exact absurd rfl e
      · have := ih h.2 hx
        show (outQ r x.id).length + 1 + 1 = r.length + 1
        omega
end Go.Proofs.YtndamiocmdnenaaGreat

/- Tickets: what the document asks, as Lean functions. (Begun in round 14, ahead of the landing: nothing of the program is named here.) -/
namespace Go.Proofs.YtndamiocmdnenaaGreat
set_option linter.unusedVariables false
set_option maxRecDepth 100000
set_option linter.unusedSimpArgs false

/-- A pass. -/
structure Ps where
  vis : Int
  nm : ByteArray
  ten : ByteArray
  ep : Int
/-- A good ticket. -/
structure Tk5 where
  tx : ByteArray
  p : Ps
/-- A book: its serial, its good tickets. -/
structure Bt where
  se : Int
  l : List Tk5
def zeroPs : Ps := ⟨0, ⟨#[]⟩, ⟨#[]⟩, 0⟩
def visT (v : Int) (x : Tk5) : Bool := x.p.vis == v
def texT (s : ByteArray) (x : Tk5) : Bool := nmQ x.tx s
/-- t: the text of each serial. -/
def issT (b : Bt) (p : Ps) (t : Int → ByteArray) : ByteArray × Int × Bt :=
  if b.l.any (visT p.vis) = true then (⟨#[]⟩, 4, b) else if 64 ≤ b.l.length then (⟨#[]⟩, 2, b) else (t (b.se + 1), 0, ⟨b.se + 1, b.l ++ [⟨t (b.se + 1), p⟩]⟩)
def redT (b : Bt) (s ten : ByteArray) : Ps × Int × Bt :=
  match b.l.find? (texT s) with
  | none => (zeroPs, 151, b)
  | some x => if nmQ x.p.ten ten = true then (x.p, 0, ⟨b.se, b.l.eraseP (texT s)⟩) else (zeroPs, 131, b)
def voiT (b : Bt) (v : Int) : Bool × Bt := (b.l.any (visT v), ⟨b.se, b.l.eraseP (visT v)⟩)
/-- A book that is right. -/
structure Gk (b : Bt) : Prop where
  nd : (b.l.map (·.p.vis)).Nodup
  few : b.l.length ≤ 64
  s0 : 0 ≤ b.se
theorem gk_nil : Gk ⟨0, []⟩ := ⟨List.nodup_nil, by simp, Int.le_refl _⟩
theorem any_vis {l : List Tk5} {v : Int} : l.any (visT v) = true ↔ v ∈ l.map (·.p.vis) := by
  rw [List.any_eq_true, List.mem_map]
  unfold visT
  constructor
  · rintro ⟨x, hx, e⟩; exact ⟨x, hx, by simpa using e⟩
  · rintro ⟨x, hx, e⟩; exact ⟨x, hx, by simpa using e⟩
theorem iss_cases (b : Bt) (p : Ps) (t : Int → ByteArray) :
    (b.l.any (visT p.vis) = true ∧ issT b p t = (⟨#[]⟩, 4, b)) ∨
    (b.l.any (visT p.vis) = false ∧ 64 ≤ b.l.length ∧ issT b p t = (⟨#[]⟩, 2, b)) ∨
    (b.l.any (visT p.vis) = false ∧ b.l.length < 64 ∧ issT b p t = (t (b.se + 1), 0, ⟨b.se + 1, b.l ++ [⟨t (b.se + 1), p⟩]⟩)) := by
  unfold issT
  cases h : b.l.any (visT p.vis) with
  | true => exact .inl ⟨rfl, rfl⟩
  | false =>
    by_cases h2 : 64 ≤ b.l.length
    · exact .inr (.inl ⟨rfl, h2, by simp [h2]⟩)
    · exact .inr (.inr ⟨rfl, by omega, by simp [h2]⟩)
/-- The first one that fits, taken out. -/
theorem erase_at {α : Type} {p : α → Bool} : ∀ {l : List α} {i : Nat} {x : α}, l[i]? = some x → (∀ y ∈ l.take i, p y = false) → p x = true → l.eraseP p = l.take i ++ l.drop (i + 1) ∧ l.find? p = some x
  | [], i, x, h, _, _ => by simp at h
  | a :: r, 0, x, h, _, hx => by
    simp at h
    subst h
    simp [List.eraseP_cons, hx]
  | a :: r, i + 1, x, h, h0, hx => by
    have ha : p a = false := h0 a (by simp)
    have := erase_at (l := r) (i := i) (x := x) (by simpa using h) (fun y hy => h0 y (by simp [hy])) hx
    simp [List.eraseP_cons, ha, this.1, this.2]
theorem erase_no {α : Type} {p : α → Bool} {l : List α} (h : ∀ y ∈ l, p y = false) : l.eraseP p = l ∧ l.find? p = none := by
  refine ⟨List.eraseP_of_forall_not (fun y hy => by rw [h y hy]; simp), List.find?_eq_none.2 (fun y hy => by rw [h y hy]; simp)⟩
theorem gk_erase {b : Bt} (h : Gk b) (p : Tk5 → Bool) : Gk ⟨b.se, b.l.eraseP p⟩ :=
  ⟨List.Pairwise.sublist (List.Sublist.map _ List.eraseP_sublist) h.nd, Nat.le_trans List.length_eraseP_le h.few, h.s0⟩
theorem gk_iss {b : Bt} (h : Gk b) (p : Ps) (t : Int → ByteArray) : Gk (issT b p t).2.2 := by
  rcases iss_cases b p t with ⟨_, e⟩ | ⟨_, _, e⟩ | ⟨h1, h2, e⟩
  · rw [e]; exact h
  · rw [e]; exact h
  · rw [e]
    refine ⟨?_, by simp; omega, by have := h.s0; show 0 ≤ b.se + 1; omega⟩
    rw [List.map_append, List.map_cons, List.map_nil, List.nodup_append]
    refine ⟨h.nd, by simp, fun a ha c hc e2 => ?_⟩
    rw [List.mem_singleton] at hc
    subst hc; subst e2
    have : b.l.any (visT p.vis) = true := any_vis.2 ha
    rw [h1] at this
    cases this
theorem gk_red {b : Bt} (h : Gk b) (s ten : ByteArray) : Gk (redT b s ten).2.2 := by
  unfold redT
  split
  · exact h
  · split
    · exact gk_erase h _
    · exact h
theorem gk_voi {b : Bt} (h : Gk b) (v : Int) : Gk (voiT b v).2 := gk_erase h _
theorem voi_no {b : Bt} {v : Int} (h : b.l.any (visT v) = false) : voiT b v = (false, b) := by
  unfold voiT
  rw [h, (erase_no (fun y hy => by rw [List.any_eq_false] at h; simpa using h y hy)).1]
theorem erase_vis {l : List Tk5} (h : (l.map (·.p.vis)).Nodup) (v : Int) : l.eraseP (visT v) = l.filter fun x => !visT v x := by
  induction l with
  | nil => rfl
  | cons a r ih =>
    rw [List.map_cons, List.nodup_cons] at h
    rw [List.eraseP_cons, List.filter_cons]
    cases ha : visT v a with
    | true =>
      have : a.p.vis = v := by unfold visT at ha; simpa using ha
      simp only [if_true, Bool.not_true, Bool.false_eq_true, if_false]
      exact (List.filter_eq_self.2 fun x hx => by
        cases hv : visT v x with
        | false => rfl
        | true =>
          have h2 : x.p.vis = v := by unfold visT at hv; simpa using hv
          exact absurd (List.mem_map.2 ⟨x, hx, by rw [h2, this]⟩) h.1).symm
    | false =>
      simp only [Bool.false_eq_true, if_false, Bool.not_false, if_true]
      rw [ih h.2]
      rfl
theorem voi_gone {b : Bt} (h : Gk b) (v : Int) : (voiT b v).2.l.any (visT v) = false := by
  unfold voiT
  dsimp only
  rw [erase_vis h.nd, List.any_eq_false]
  intro x hx
  have := (List.mem_filter.1 hx).2
  simpa using this
theorem red_cases (b : Bt) (s ten : ByteArray) :
    ((∀ y ∈ b.l, texT s y = false) ∧ redT b s ten = (zeroPs, 151, b)) ∨
    (∃ x, b.l.find? (texT s) = some x ∧ nmQ x.p.ten ten = false ∧ redT b s ten = (zeroPs, 131, b)) ∨
    (∃ x, b.l.find? (texT s) = some x ∧ nmQ x.p.ten ten = true ∧ redT b s ten = (x.p, 0, ⟨b.se, b.l.eraseP (texT s)⟩)) := by
  unfold redT
  cases hf : b.l.find? (texT s) with
  | none =>
    exact .inl ⟨fun y hy => by simpa using List.find?_eq_none.1 hf y hy, rfl⟩
  | some x =>
    cases ht : nmQ x.p.ten ten with
    | false => exact .inr (.inl ⟨x, rfl, ht, by dsimp only; rw [if_neg (by rw [ht]; simp)]⟩)
    | true => exact .inr (.inr ⟨x, rfl, ht, by dsimp only; rw [if_pos ht]⟩)

/- TicketVoid: how many of a text are left. -/
def cntT (l : List Tk5) (s : ByteArray) : Nat := l.countP (texT s)
theorem cnt_erase {s t : ByteArray} : ∀ {l : List Tk5}, cntT (l.eraseP (texT s)) t = if nmQ s t = true then cntT l t - 1 else cntT l t
  | [] => by simp [cntT]
  | a :: r => by
    have ih := cnt_erase (s := s) (t := t) (l := r)
    unfold cntT at ih ⊢
    rw [List.eraseP_cons]
    by_cases hst : nmQ s t = true
    · have : s = t := (nmQ_iff _ _).1 hst
      subst this
      rw [if_pos hst] at ih ⊢
      cases ha : texT s a with
      | true => simp [List.countP_cons, ha]
      | false => simp [List.countP_cons, ha]; simpa using ih
    · rw [if_neg hst] at ih ⊢
      cases ha : texT s a with
      | true =>
        have hb : texT t a = false := by
          cases hb : texT t a with
          | false => rfl
          | true =>
            unfold texT at ha hb
            rw [nmQ_iff] at ha hb
            exact absurd ((nmQ_iff _ _).2 (ha.symm.trans hb)) hst
        simp [List.countP_cons, hb]
      | false => simp [List.countP_cons]; simpa using ih
/-- Each told text is shown once: then none is left. -/
def shT (l : List Tk5) : List ByteArray → List Tk5
  | [] => l
  | s :: r => shT (l.eraseP (texT s)) r
theorem cnt_sh {t : ByteArray} : ∀ {ts : List ByteArray} {l : List Tk5}, cntT (shT l ts) t = cntT l t - ts.countP (fun s => nmQ s t)
  | [], l => by simp [shT]
  | s :: r, l => by
    unfold shT
    rw [cnt_sh (ts := r), cnt_erase, List.countP_cons]
    split <;> omega
theorem sh_all {ts : List ByteArray} {l : List Tk5} (h : ∀ t, cntT l t ≤ ts.countP (fun s => nmQ s t)) : shT l ts = [] := by
  cases hs : shT l ts with
  | nil => rfl
  | cons x r =>
    have h1 := cnt_sh (t := x.tx) (ts := ts) (l := l)
    have h2 := h x.tx
    rw [hs] at h1
    have h3 : 0 < cntT (x :: r) x.tx := by
      unfold cntT
      rw [List.countP_pos_iff]
      exact ⟨x, List.mem_cons_self .., by unfold texT; exact nmQ_same _⟩
    omega
theorem sh_snoc (s : ByteArray) : ∀ (ts : List ByteArray) (l : List Tk5), shT l (ts ++ [s]) = (shT l ts).eraseP (texT s)
  | [], l => rfl
  | a :: r, l => by
    show shT (l.eraseP (texT a)) (r ++ [s]) = (shT (l.eraseP (texT a)) r).eraseP (texT s)
    exact sh_snoc s r _
theorem cnt_told (l : List Tk5) (t : ByteArray) : cntT l t = (l.map (·.tx)).countP (fun s => nmQ s t) := by
  unfold cntT
  rw [List.countP_map]
  rfl
theorem cnt_less {l : List Tk5} (p : Tk5 → Bool) (t : ByteArray) : cntT (l.eraseP p) t ≤ cntT l t := List.Sublist.countP_le List.eraseP_sublist

/- TicketOnce: what was told, and what of it is good still. -/
structure On5 where
  tx : ByteArray
  p : Ps
  ok : Bool
def goodL (E : List On5) : List Tk5 := (E.filter (·.ok)).map fun e => ⟨e.tx, e.p⟩
def hitO (s : ByteArray) (e : On5) : Bool := e.ok && nmQ e.tx s
theorem good_any (E : List On5) (s : ByteArray) : (∀ y ∈ goodL E, texT s y = false) ↔ ∀ e ∈ E, hitO s e = false := by
  unfold goodL hitO texT
  constructor
  · intro h e he
    cases ho : e.ok with
    | false => rfl
    | true =>
      have := h ⟨e.tx, e.p⟩ (List.mem_map.2 ⟨e, List.mem_filter.2 ⟨he, ho⟩, rfl⟩)
      simpa using this
  · intro h y hy
    obtain ⟨e, he, rfl⟩ := List.mem_map.1 hy
    obtain ⟨h1, h2⟩ := List.mem_filter.1 he
    have := h e h1
    rw [h2] at this
    simpa using this
theorem goodL_app (E F : List On5) : goodL (E ++ F) = goodL E ++ goodL F := by
  unfold goodL
  rw [List.filter_append, List.map_append]
/-- The first one that fits: the document finds it too. -/
theorem good_at {E : List On5} {s : ByteArray} {k : Nat} {e : On5} (h : E[k]? = some e) (h0 : ∀ y ∈ E.take k, hitO s y = false) (he : hitO s e = true) :
    (goodL E).find? (texT s) = some ⟨e.tx, e.p⟩ ∧ goodL (E.set k ⟨e.tx, e.p, false⟩) = (goodL E).eraseP (texT s) := by
  obtain ⟨hk, hke⟩ := List.getElem?_eq_some_iff.1 h
  have hok : e.ok = true := by unfold hitO at he; simp at he; exact he.1
  have htx : nmQ e.tx s = true := by unfold hitO at he; simp at he; exact he.2
  have e1 : E = E.take k ++ e :: E.drop (k + 1) := by rw [← hke, ← List.drop_eq_getElem_cons hk, List.take_append_drop]
  have e2 : E.set k ⟨e.tx, e.p, false⟩ = E.take k ++ ⟨e.tx, e.p, false⟩ :: E.drop (k + 1) := by
    rw [List.set_eq_take_append_cons_drop, if_pos hk]
  have g1 : goodL E = goodL (E.take k) ++ ⟨e.tx, e.p⟩ :: goodL (E.drop (k + 1)) := by
    conv => lhs; rw [e1]
    rw [goodL_app]
    congr 1
    unfold goodL
    rw [List.filter_cons, if_pos hok, List.map_cons]
  have g2 : goodL (E.set k ⟨e.tx, e.p, false⟩) = goodL (E.take k) ++ goodL (E.drop (k + 1)) := by
    rw [e2, goodL_app]
    congr 1
  have hno := (good_any (E.take k) s).2 h0
  rw [g2, g1, List.eraseP_append_right _ (fun y hy => by rw [hno y hy]; simp), List.eraseP_cons]
  constructor
  · rw [List.find?_append, (erase_no hno).2, List.find?_cons, show texT s ⟨e.tx, e.p⟩ = true from htx]
    rfl
  · rw [show texT s ⟨e.tx, e.p⟩ = true from htx]; rfl
/-- Void's loop. -/
def offO (v : Int) (e : On5) : On5 := if (e.ok && e.p.vis == v) = true then ⟨e.tx, e.p, false⟩ else e
theorem good_off (E : List On5) (v : Int) : goodL (E.map (offO v)) = (goodL E).filter fun x => !visT v x := by
  induction E with
  | nil => rfl
  | cons a r ih =>
    have h1 : goodL ((a :: r).map (offO v)) = goodL [offO v a] ++ goodL (r.map (offO v)) := by rw [← goodL_app]; rfl
    have h2 : goodL (a :: r) = goodL [a] ++ goodL r := by rw [← goodL_app]; rfl
    rw [h1, h2, List.filter_append, ih]
    congr 1
    obtain ⟨tx, p, ok⟩ := a
    unfold offO goodL visT
    cases ok with
    | false => simp
    | true =>
      by_cases hv : p.vis = v
      · simp [hv]
      · simp [hv]
end Go.Proofs.YtndamiocmdnenaaGreat

/- A function value is made. Nothing of the program is named here. -/
namespace Go.Proofs.YtndamiocmdnenaaGreat
set_option linter.unusedVariables false
set_option maxRecDepth 100000
set_option linter.unusedSimpArgs false
open Go.RowKit

theorem hmf {P : Program} : ∀ (fn : Fn) (first cap : Array Value) (w : World), (Instr.makeFunc fn first cap).run P w = .ok (.func fn first cap) w := fun _ _ _ _ => rfl

end Go.Proofs.YtndamiocmdnenaaGreat

/- num.number over whatever tells its digits. -/
namespace Go.Proofs.YtndamiocmdnenaaGreat
set_option linter.unusedVariables false
set_option maxRecDepth 100000
set_option linter.unusedSimpArgs false
open Go.RowKit

/-- What number reckons of digits that are told: of each the digit, whether it is the last one, whether it is one at all. -/
def numS (b : Nat) (st : Nat → Nat × Bool × Bool) : Nat → Nat → Nat → Option (Nat × Nat)
  | 0, _, _ => none
  | f + 1, k, n =>
    let d := st k
    if d.2.2 = false then none
    else if 1099511627776 < n * b + d.1 ∨ (n * b + d.1 = 0 ∧ d.2.1 = false) then none
    else if d.2.1 = true then some (n * b + d.1, k + 1)
    else numS b st f (k + 1) (n * b + d.1)

/-- How number returns it. -/
def numE : Option (Nat × Nat) → Ending
  | some (n, k) => .returned (.tuple #[.int .i64 n, .int .i64 k, .bool true])
  | none => .returned (.tuple #[.int .i64 0, .int .i64 0, .bool false])

/-- A call of a function with a body goes into it. -/
theorem goes_in {P : Program} {f : FuncId} {fn : Func} {c : Code} (h1 : P.funcs[f]? = some fn) (h2 : (fn.name == "runtime.NumGoroutine") = false) (h3 : fn.body = some c) (args : Array Value) (w : World) :
    (callFunc f args).run P w = .ok (.enter f args) w := by
  have hn : fn.name ≠ "runtime.NumGoroutine" := by simpa using h2
  simp [callFunc, h1, hn, h3, mark]

end Go.Proofs.YtndamiocmdnenaaGreat

/- num.reader over a text: what it makes, and what each call of that tells. -/
namespace Go.Proofs.YtndamiocmdnenaaGreat
set_option linter.unusedVariables false
set_option maxRecDepth 100000
set_option linter.unusedSimpArgs false
open Go.RowKit

/-- The same over a text. -/
structure RdS (w : World) (g : Nat) (s : ByteArray) (k : Nat) : Prop where
  pos : Bk w (g + 1) 3 #[.int .i64 k]
  from_ : Bk w g 9 #[.string s]
  size : s.size ≤ 140737488355328
  le : k ≤ s.size

theorem RdS.start {w : World} {s : ByteArray} (hl : s.size ≤ 140737488355328) :
    RdS ((w.alloc (.cells #[.string s] 9)).alloc (.cells #[.int .i64 0] 3)) w.heap.size s 0 := by
  have b1 : Bk (w.alloc (.cells #[.string s] 9)) w.heap.size 9 _ := Bk.new w _ _
  have b2 : Bk ((w.alloc (.cells #[.string s] 9)).alloc (.cells #[.int .i64 0] 3)) (w.heap.size + 1) 3 #[.int .i64 0] := by
    have := Bk.new (w.alloc (.cells #[.string s] 9)) 3 #[.int .i64 0]
    simpa using this
  exact ⟨b2, b1.alloc _, hl, by omega⟩

theorem RdS.step {w : World} {g k : Nat} {s : ByteArray} (h : RdS w g s k) (hk : k < s.size) : RdS (w.setCell ⟨g + 1, 0, none⟩ (.int .i64 ((k + 1 : Nat) : Int))) g s (k + 1) :=
  ⟨h.pos.set 0 _, h.from_.far (by show g ≠ g + 1; omega) _, h.size, by omega⟩

theorem RdS.below {w w' : World} {g k B : Nat} {s : ByteArray} (h : RdS w g s k) (hb : Below B w w') (hB : g + 2 ≤ B) : RdS w' g s k :=
  ⟨h.pos.below hb (by omega), h.from_.below hb (by omega), h.size, h.le⟩

end Go.Proofs.YtndamiocmdnenaaGreat

/- num.Parse: its contract. -/
namespace Go.Proofs.YtndamiocmdnenaaGreat
set_option linter.unusedVariables false
set_option maxRecDepth 100000
set_option linter.unusedSimpArgs false
open Go.RowKit

def stP (s : ByteArray) (k : Nat) : Nat × Bool × Bool := if h : k < s.size then ((s[k]).toNat - 48, decide (k + 1 = s.size), decide (48 ≤ (s[k]).toNat ∧ (s[k]).toNat ≤ 57)) else (0, true, false)
/-- The number of which a text is the decimals. -/
def parseS (s : ByteArray) : Option (Nat × Nat) := numS 10 (stP s) (s.size + 1) 0 0

theorem parse1_fin {w' : World} {g k v S : Nat} {P Q : Prop} (b1 : Bool) (hb : b1 = decide (48 ≤ v ∧ v ≤ 57)) (h : P) (h' : Q) :
    ∃ di lb, Ending.returned (.tuple #[.int .i64 ((v : Int) - 48), .bool ((S : Int) - (k : Int) - 1 == 0), .bool b1]) = Ending.returned (.tuple #[.int .i64 di, .bool lb, .bool (decide (48 ≤ v ∧ v ≤ 57))]) ∧
      (decide (48 ≤ v ∧ v ≤ 57) = true → di = ((v - 48 : Nat) : Int) ∧ lb = decide (k + 1 = S) ∧ P) ∧ Q :=
  ⟨_, _, by rw [hb], (fun h0 => ⟨(by have : 48 ≤ v ∧ v ≤ 57 := (by simpa using h0); omega), (by rw [Bool.eq_iff_iff]; simp; omega), h⟩), h'⟩

/-- How Parse returns it. -/
def parE : Option (Nat × Nat) → Ending
  | some (n, _) => .returned (.tuple #[.int .i64 n, .bool true])
  | none => .returned (.tuple #[.int .i64 0, .bool false])

end Go.Proofs.YtndamiocmdnenaaGreat

/- Numbers of their digits, the highest first: plain mathematics. -/
namespace Go.Proofs.YtndamiocmdnenaaGreat
set_option linter.unusedVariables false
set_option maxRecDepth 100000
set_option linter.unusedSimpArgs false

theorem numS_no {b : Nat} {st : Nat → Nat × Bool × Bool} {f k n : Nat} (h : (st k).2.2 = false) : numS b st (f + 1) k n = none := by
  simp [numS, h]
theorem numS_last {b : Nat} {st : Nat → Nat × Bool × Bool} {f k n d : Nat} (h : st k = (d, true, true)) (hm : n * b + d ≤ 1099511627776) : numS b st (f + 1) k n = some (n * b + d, k + 1) := by
  simp [numS, h]; omega
theorem numS_more {b : Nat} {st : Nat → Nat × Bool × Bool} {f k n d : Nat} (h : st k = (d, false, true)) (hm : n * b + d ≤ 1099511627776) (h0 : n * b + d ≠ 0) : numS b st (f + 1) k n = numS b st f (k + 1) (n * b + d) := by
  simp only [numS, h]
  rw [if_neg (by simp), if_neg (by rintro (h1 | ⟨h1, _⟩); omega; exact h0 h1), if_neg (by simp)]

theorem numS_big' {b : Nat} {st : Nat → Nat × Bool × Bool} {f k n d : Nat} {last : Bool} (h : st k = (d, last, true)) (hm : 1099511627776 < n * b + d) : numS b st (f + 1) k n = none := by
  simp only [numS, h]
  rw [if_neg (by simp), if_pos (.inl hm)]
theorem numS_zero' {b : Nat} {st : Nat → Nat × Bool × Bool} {f k n d : Nat} (h : st k = (d, false, true)) (hm : n * b + d = 0) : numS b st (f + 1) k n = none := by
  simp [numS, h, hm]

/-- What digits come to. -/
def fold (b n : Nat) (ds : List Nat) : Nat := ds.foldl (fun n d => n * b + d) n
theorem fold_le (b : Nat) (hb : 1 ≤ b) : ∀ (ds : List Nat) (n : Nat), n ≤ fold b n ds := by
  intro ds
  induction ds with
  | nil => intro n; exact Nat.le_refl _
  | cons d ds ih =>
    intro n
    have h1 := ih (n * b + d)
    have h2 : n ≤ n * b := Nat.le_mul_of_pos_right n hb
    exact Nat.le_trans (by omega) h1
theorem fold_snoc (b n : Nat) (ds : List Nat) (d : Nat) : fold b n (ds ++ [d]) = fold b n ds * b + d := by simp [fold]
theorem fold_dg (b : Nat) (hb : 2 ≤ b) : ∀ n, fold b 0 (dg b n) = n := by
  intro n
  induction n using Nat.strongRecOn with
  | ind n ih =>
    by_cases h : n < b
    · rw [dg_small h]; simp [fold]
    · rw [dg_big hb h, fold_snoc, ih (n / b) (Nat.div_lt_self (by omega) (by omega))]
      have := Nat.div_add_mod n b
      rw [Nat.mul_comm]; omega

theorem numS_front {b : Nat} (hb : 1 ≤ b) {st : Nat → Nat × Bool × Bool} : ∀ (ds : List Nat) (f k n : Nat), (∀ i, (h : i < ds.length) → st (k + i) = (ds[i], false, true)) → fold b n ds ≤ 1099511627776 →
    (∀ d r, ds = d :: r → n * b + d ≠ 0) → numS b st (f + ds.length) k n = numS b st f (k + ds.length) (fold b n ds) := by
  intro ds
  induction ds with
  | nil => intro f k n _ _ _; rfl
  | cons d ds ih =>
    intro f k n hst hle h0
    have hs0 := hst 0 (by simp)
    have hle2 : n * b + d ≤ 1099511627776 := Nat.le_trans (fold_le b hb ds _) hle
    have hne := h0 d ds rfl
    have e : f + (d :: ds).length = (f + ds.length) + 1 := by simp; omega
    rw [e, numS_more (by simpa using hs0) hle2 hne, ih f (k + 1) (n * b + d)]
    · have e2 : k + 1 + ds.length = k + (d :: ds).length := by simp; omega
      rw [e2]; rfl
    · intro i hi
      have := hst (i + 1) (by simp; omega)
      have e3 : k + (i + 1) = k + 1 + i := by omega
      rw [e3] at this
      simpa using this
    · exact hle
    · intro d' r _
      have : 1 * b ≤ (n * b + d) * b := Nat.mul_le_mul_right b (by omega)
      omega

theorem fold_pos {b n d : Nat} {r : List Nat} (e : dg b n = d :: r) (hb : 2 ≤ b) (hn : 0 < n) : d ≠ 0 := by
  obtain ⟨d', r', e', h⟩ := dg_head' b hb n hn
  rw [e] at e'
  injection e' with e1 _
  rw [e1]; exact h

def hiD (b n : Nat) : List Nat := if n < b then [] else dg b (n / b)
theorem hiD_lt (b : Nat) (hb : 2 ≤ b) (n d : Nat) (h : d ∈ hiD b n) : d < b := by
  unfold hiD at h
  by_cases hn : n < b
  · simp [hn] at h
  · rw [if_neg hn] at h
    exact dg_lt b hb _ d h
theorem hiD_fold (b : Nat) (hb : 2 ≤ b) (n : Nat) : fold b 0 (hiD b n) = n / b := by
  unfold hiD
  by_cases hn : n < b
  · simp [hn, fold, Nat.div_eq_of_lt hn]
  · rw [if_neg hn, fold_dg b hb]
theorem hiD_head (b : Nat) (hb : 2 ≤ b) (n d : Nat) (r : List Nat) (e : hiD b n = d :: r) : d ≠ 0 := by
  unfold hiD at e
  by_cases hn : n < b
  · simp [hn] at e
  · rw [if_neg hn] at e
    exact fold_pos e hb (Nat.div_pos (by omega) (by omega))

theorem dg_step (b n d : Nat) (hb : 2 ≤ b) (hd : d < b) (hn : 1 ≤ n) : dg b (n * b + d) = dg b n ++ [d] := by
  have h1 : 1 * b ≤ n * b := Nat.mul_le_mul_right b hn
  have h2 : (n * b + d) / b = n := by rw [Nat.mul_comm, Nat.mul_add_div (by omega), Nat.div_eq_of_lt hd]; omega
  have h3 : (n * b + d) % b = d := by rw [Nat.mul_comm, Nat.mul_add_mod]; exact Nat.mod_eq_of_lt hd
  rw [dg_big hb (by omega), h2, h3]

theorem ofNat_toNat_eq (c : UInt8) (d : Nat) (h : c.toNat = d) : c = UInt8.ofNat d := by rw [← h]; simp

end Go.Proofs.YtndamiocmdnenaaGreat

/- There and back, of decimals: plain mathematics. -/
namespace Go.Proofs.YtndamiocmdnenaaGreat
set_option linter.unusedVariables false
set_option maxRecDepth 100000
set_option linter.unusedSimpArgs false

/-! ### Decimals -/

theorem stP_at (s : ByteArray) (k : Nat) (h : k < s.size) : stP s k = ((s[k]).toNat - 48, decide (k + 1 = s.size), decide (48 ≤ (s[k]).toNat ∧ (s[k]).toNat ≤ 57)) := by simp [stP, h]
theorem stP_end (s : ByteArray) (k : Nat) (h : ¬ k < s.size) : stP s k = (0, true, false) := by simp [stP, h]

theorem bs_at (l : List UInt8) (k : Nat) (h : k < (bs l).size) (h' : k < l.length) : (bs l)[k] = l[k] := by
  show (bs l).data[k] = _
  simp [bs]

theorem decB_eq (n : Nat) : decB n = (hiD 10 n).map (fun d => UInt8.ofNat (d + 48)) ++ [UInt8.ofNat (n % 10 + 48)] := by
  unfold decB hiD
  by_cases h : n < 10
  · rw [dg_small h, if_pos h, Nat.mod_eq_of_lt h]; rfl
  · rw [dg_big (by omega) h, if_neg h, List.map_append]; rfl

theorem parse_back (n : Nat) (hn : n ≤ 1099511627776) : ∃ k, parseS (bs (decB n)) = some (n, k) := by
  have hm := Nat.mod_lt n (by omega : 10 > 0)
  have hlen : (decB n).length = (hiD 10 n).length + 1 := by rw [decB_eq]; simp
  have hsz : (bs (decB n)).size = (hiD 10 n).length + 1 := by rw [bs_size, hlen]
  have hf : fold 10 0 (hiD 10 n) = n / 10 := hiD_fold 10 (by omega) n
  unfold parseS
  have e : (bs (decB n)).size + 1 = 2 + (hiD 10 n).length := by rw [hsz]; omega
  refine ⟨(hiD 10 n).length + 1, ?_⟩
  rw [e, numS_front (by omega) (hiD 10 n) _ 0 0 ?_ (by rw [hf]; omega) (fun d r e => by have := hiD_head 10 (by omega) n d r e; omega), hf, Nat.zero_add]
  · have hk : (hiD 10 n).length < (bs (decB n)).size := by omega
    have hst : stP (bs (decB n)) (hiD 10 n).length = (n % 10, true, true) := by
      rw [stP_at _ _ hk]
      have e2 : (bs (decB n))[(hiD 10 n).length] = UInt8.ofNat (n % 10 + 48) := by
        refine (bs_at _ _ hk (by omega)).trans ?_
        have := decB_eq n
        simp only [this]
        rw [List.getElem_append_right (by simp)]
        simp
      rw [e2, u8_ofNat _ (by omega), hsz]
      have e3 : n % 10 + 48 - 48 = n % 10 := by omega
      rw [e3, decide_eq_true rfl, decide_eq_true ⟨by omega, by omega⟩]
    have hdm := Nat.div_add_mod n 10
    rw [numS_last hst (by omega)]
    congr 2
    omega
  · intro i hi
    have hd := hiD_lt 10 (by omega) n _ (List.getElem_mem hi)
    have hi2 : i < (bs (decB n)).size := by omega
    rw [Nat.zero_add, stP_at _ i hi2]
    have e2 : (bs (decB n))[i] = UInt8.ofNat ((hiD 10 n)[i] + 48) := by
      refine (bs_at _ _ hi2 (by omega)).trans ?_
      have := decB_eq n
      simp only [this]
      rw [List.getElem_append_left (by simpa using hi)]
      simp
    rw [e2, u8_ofNat _ (by omega), hsz]
    have e3 : (hiD 10 n)[i] + 48 - 48 = (hiD 10 n)[i] := by omega
    rw [e3, decide_eq_false (by omega), decide_eq_true ⟨by omega, by omega⟩]

theorem par_inv (s : ByteArray) : ∀ (f k n r m : Nat), ((k = 0 ∧ n = 0) ∨ (1 ≤ n ∧ k ≤ s.size ∧ s.data.toList.take k = decB n)) → numS 10 (stP s) f k n = some (r, m) →
    r ≤ 1099511627776 ∧ s.data.toList = decB r := by
  intro f
  induction f with
  | zero => intro k n r m _ h; cases h
  | succ f ih =>
    intro k n r m hI h
    by_cases hk : k < s.size
    · have hst := stP_at s k hk
      have hk2 : k < s.data.toList.length := hk
      have ht : s.data.toList.take (k + 1) = s.data.toList.take k ++ [s.data.toList[k]] := List.take_succ_eq_append_getElem hk2
      have hsk : s.data.toList[k] = s[k] := by
        show s.data.toList[k] = s.data[k]
        simp
      rw [hsk] at ht
      generalize hv : (s[k]).toNat = v at hst
      by_cases hdig : 48 ≤ v ∧ v ≤ 57
      · rw [decide_eq_true hdig] at hst
        have hc : s[k] = UInt8.ofNat ((v - 48) + 48) := by rw [ofNat_toNat_eq _ _ hv]; congr 1; omega
        rw [hc] at ht
        by_cases hbig : 1099511627776 < n * 10 + (v - 48) ∨ (n * 10 + (v - 48) = 0 ∧ decide (k + 1 = s.size) = false)
        · simp only [numS, hst] at h
          rw [if_neg (by simp), if_pos hbig] at h
          cases h
        · have hle : n * 10 + (v - 48) ≤ 1099511627776 := by
            rcases Nat.lt_or_ge 1099511627776 (n * 10 + (v - 48)) with h1 | h1
            · exact absurd (.inl h1) hbig
            · exact h1
          have hnew : s.data.toList.take (k + 1) = decB (n * 10 + (v - 48)) := by
            rw [ht]
            rcases hI with ⟨rfl, rfl⟩ | ⟨hn1, _, htk⟩
            · rw [decB, dg_small (by omega)]; simp
            · rw [htk, decB, decB, dg_step 10 n (v - 48) (by omega) (by omega) hn1, List.map_append]; rfl
          by_cases hlast : k + 1 = s.size
          · rw [decide_eq_true hlast] at hst
            rw [numS_last hst hle] at h
            injection h with h
            injection h with h1 h2
            subst h1
            refine ⟨hle, ?_⟩
            rw [← hnew, List.take_of_length_le]
            show s.size ≤ k + 1
            omega
          · rw [decide_eq_false hlast] at hst
            have hne : n * 10 + (v - 48) ≠ 0 := fun h0 => hbig (.inr ⟨h0, decide_eq_false hlast⟩)
            rw [numS_more hst hle hne] at h
            exact ih (k + 1) _ r m (.inr ⟨by omega, by omega, hnew⟩) h
      · rw [decide_eq_false hdig] at hst
        rw [numS_no (by rw [hst])] at h
        cases h
    · rw [numS_no (by rw [stP_end _ _ hk])] at h
      cases h

theorem parse_is (s : ByteArray) (z k : Nat) (h : parseS s = some (z, k)) : z ≤ 1099511627776 ∧ s = bs (decB z) := by
  obtain ⟨h1, h2⟩ := par_inv s _ 0 0 z k (.inl ⟨rfl, rfl⟩) h
  refine ⟨h1, ?_⟩
  rw [← h2]
  cases s; simp [bs]

end Go.Proofs.YtndamiocmdnenaaGreat

/- Names, addresses, nets: plain mathematics. -/
namespace Go.Proofs.YtndamiocmdnenaaGreat
set_option linter.unusedVariables false
set_option maxRecDepth 100000
set_option linter.unusedSimpArgs false

/-! ### Texts cut at a mark -/

/-- What stands ahead of a byte, what behind it, whether there is one. -/
def cutL (c : UInt8) : List UInt8 → List UInt8 × List UInt8 × Bool
  | [] => ([], [], false)
  | x :: r => if x = c then ([], r, true) else (x :: (cutL c r).1, (cutL c r).2.1, (cutL c r).2.2)

def piecesL (c : UInt8) : List UInt8 → List (List UInt8)
  | [] => [[]]
  | x :: r => if x = c then [] :: piecesL c r else
    match piecesL c r with
    | [] => [[x]]
    | p :: ps => (x :: p) :: ps

def joinL (c : UInt8) : List (List UInt8) → List UInt8
  | [] => []
  | [p] => p
  | p :: q :: ps => p ++ c :: joinL c (q :: ps)

theorem cutL_join (c : UInt8) : ∀ l, ((cutL c l).2.2 = true → l = (cutL c l).1 ++ c :: (cutL c l).2.1) ∧ ((cutL c l).2.2 = false → l = (cutL c l).1 ∧ (cutL c l).2.1 = [])
  | [] => by simp [cutL]
  | x :: r => by
    obtain ⟨h1, h2⟩ := cutL_join c r
    unfold cutL
    by_cases hx : x = c
    · simp [hx]
    · simp only [if_neg hx]
      refine ⟨fun h => by rw [List.cons_append, ← h1 h], fun h => ⟨by rw [← (h2 h).1], (h2 h).2⟩⟩
theorem cutL_lt (c : UInt8) (l : List UInt8) (h : (cutL c l).2.2 = true) : (cutL c l).2.1.length < l.length := by
  have := congrArg List.length ((cutL_join c l).1 h)
  rw [List.length_append, List.length_cons] at this
  omega
theorem cutL_len (c : UInt8) (l : List UInt8) : (cutL c l).1.length ≤ l.length ∧ (cutL c l).2.1.length ≤ l.length := by
  cases h : (cutL c l).2.2
  · obtain ⟨h1, h2⟩ := (cutL_join c l).2 h
    exact ⟨Nat.le_of_eq (congrArg List.length h1).symm, by rw [h2]; simp⟩
  · have := congrArg List.length ((cutL_join c l).1 h)
    rw [List.length_append, List.length_cons] at this
    omega
theorem cutL_no (c : UInt8) : ∀ l, c ∉ (cutL c l).1
  | [] => by simp [cutL]
  | x :: r => by
    unfold cutL
    by_cases hx : x = c
    · simp [hx]
    · simp only [if_neg hx, List.mem_cons, not_or]
      exact ⟨fun h => hx h.symm, cutL_no c r⟩
theorem cutL_hit (c : UInt8) : ∀ (p r : List UInt8), c ∉ p → cutL c (p ++ c :: r) = (p, r, true)
  | [], r, _ => by simp [cutL]
  | x :: p, r, h => by
    rw [List.mem_cons, not_or] at h
    have hx : ¬ x = c := fun e => h.1 e.symm
    rw [List.cons_append, cutL, if_neg hx, cutL_hit c p r h.2]
theorem cutL_miss (c : UInt8) : ∀ p : List UInt8, c ∉ p → cutL c p = (p, [], false)
  | [], _ => rfl
  | x :: p, h => by
    rw [List.mem_cons, not_or] at h
    have hx : ¬ x = c := fun e => h.1 e.symm
    rw [cutL, if_neg hx, cutL_miss c p h.2]

theorem pieces_cut (c : UInt8) : ∀ l, piecesL c l = (cutL c l).1 :: (if (cutL c l).2.2 = true then piecesL c (cutL c l).2.1 else [])
  | [] => by simp [cutL, piecesL]
  | x :: r => by
    have ih := pieces_cut c r
    rw [cutL, piecesL]
    by_cases hx : x = c
    · simp [hx]
    · simp only [if_neg hx]
      rw [ih]
theorem pieces_join (c : UInt8) : ∀ l, joinL c (piecesL c l) = l
  | [] => rfl
  | x :: r => by
    have ih := pieces_join c r
    unfold piecesL
    by_cases hx : x = c
    · rw [if_pos hx]
      have hp := pieces_cut c r
      rw [hp] at ih ⊢
      rw [joinL, ih, hx]; rfl
    · rw [if_neg hx]
      cases hp : piecesL c r with
      | nil => rw [pieces_cut] at hp; cases hp
      | cons p ps =>
        rw [hp] at ih
        cases ps with
        | nil => show x :: p = _; rw [show p = r from ih]
        | cons q ps => show (x :: p) ++ c :: joinL c (q :: ps) = _; rw [← ih]; rfl
theorem pieces_of (c : UInt8) : ∀ ps : List (List UInt8), ps ≠ [] → (∀ p ∈ ps, c ∉ p) → piecesL c (joinL c ps) = ps
  | [], h, _ => absurd rfl h
  | [p], _, h => by rw [joinL, pieces_cut, cutL_miss c p (h p (by simp))]; simp
  | p :: q :: ps, _, h => by
    rw [joinL, pieces_cut, cutL_hit c p _ (h p (by simp)), if_pos rfl, pieces_of c (q :: ps) (by simp) (fun p' hp' => h p' (List.mem_cons_of_mem _ hp'))]
theorem pieces_small (c : UInt8) (l : List UInt8) : ∀ p ∈ piecesL c l, p.length ≤ l.length := by
  induction hn : l.length using Nat.strongRecOn generalizing l with
  | _ n ih =>
    intro p hp
    rw [pieces_cut] at hp
    rcases List.mem_cons.1 hp with rfl | hp
    · have := (cutL_len c l).1; omega
    · cases hm : (cutL c l).2.2
      · rw [hm] at hp; simp at hp
      · rw [hm, if_pos rfl] at hp
        have := cutL_lt c l hm
        have := ih _ (by omega) (cutL c l).2.1 rfl p hp
        omega

theorem pieces_len (c : UInt8) : ∀ l, (piecesL c l).length ≤ l.length + 1
  | [] => by simp [piecesL]
  | x :: r => by
    have ih := pieces_len c r
    have hc := pieces_cut c r
    rw [piecesL]
    by_cases hx : x = c
    · rw [if_pos hx, List.length_cons, List.length_cons]; omega
    · rw [if_neg hx, hc]
      rw [hc] at ih
      simp only [List.length_cons] at ih ⊢
      omega

/-- What the library's search makes of it. -/
theorem cutL_index (c : UInt8) : ∀ l : List UInt8, (Go.Lib.indexByte l c = -1 ∧ cutL c l = (l, [], false)) ∨ ∃ i : Nat, Go.Lib.indexByte l c = (i : Int) ∧ i < l.length ∧ cutL c l = (l.take i, l.drop (i + 1), true)
  | [] => .inl ⟨by simp [Go.Lib.indexByte], rfl⟩
  | x :: r => by
    unfold cutL Go.Lib.indexByte
    by_cases hx : x = c
    · exact .inr ⟨0, by simp [hx], by simp, by simp [hx]⟩
    · rcases cutL_index c r with ⟨h1, h2⟩ | ⟨i, h1, h2, h3⟩
      · exact .inl ⟨by simp [hx, h1], by simp [hx, h2]⟩
      · refine .inr ⟨i + 1, ?_, by simp; omega, by simp [hx, h3]⟩
        have e : ((i : Int) == -1) = false := by simp
        simp [hx, h1, e]

/-! ### Numbers up to a greatest one -/

def upToO (top : Nat) (p : ByteArray) : Option Nat := match parseS p with
  | some (n, _) => if n ≤ top then some n else none
  | none => none

theorem upToO_dec (top n : Nat) (h : n ≤ top) (ht : top ≤ 1099511627776) : upToO top (bs (decB n)) = some n := by
  obtain ⟨k, hk⟩ := parse_back n (by omega)
  simp [upToO, hk, h]
theorem upToO_is (top n : Nat) (p : ByteArray) (h : upToO top p = some n) : n ≤ top ∧ p = bs (decB n) := by
  unfold upToO at h
  cases hp : parseS p with
  | none => rw [hp] at h; cases h
  | some x =>
    obtain ⟨m, k⟩ := x
    rw [hp] at h
    simp only at h
    by_cases hm : m ≤ top
    · rw [if_pos hm] at h
      obtain rfl : m = n := by injection h
      exact ⟨hm, (parse_is p m k hp).2⟩
    · rw [if_neg hm] at h; cases h


theorem dec_digit (n : Nat) (c : UInt8) (h : c ∈ decB n) : 48 ≤ c.toNat ∧ c.toNat ≤ 57 := by
  unfold decB at h
  obtain ⟨d, hd, rfl⟩ := List.mem_map.1 h
  have := dg_lt 10 (by omega) n d hd
  rw [u8_ofNat _ (by omega)]; omega
theorem dec_no (n : Nat) (c : UInt8) (h : c.toNat < 48) : c ∉ decB n := fun hc => by have := dec_digit n c hc; omega

/-! ### Addresses -/

def dotsB (a : Nat) : List UInt8 := joinL 46 [decB (a / 16777216 % 256), decB (a / 65536 % 256), decB (a / 256 % 256), decB (a % 256)]

def addrL : List (Option Nat) → Option Nat
  | [some a, some b, some c, some d] => some (((a * 256 + b) * 256 + c) * 256 + d)
  | _ => none
def addrO (s : ByteArray) : Option Nat := addrL ((piecesL 46 s.data.toList).map fun p => upToO 255 (bs p))

theorem dotsB_pieces (a : Nat) : piecesL 46 (dotsB a) = [decB (a / 16777216 % 256), decB (a / 65536 % 256), decB (a / 256 % 256), decB (a % 256)] := by
  refine pieces_of 46 _ (by simp) (fun p hp => ?_)
  simp only [List.mem_cons, List.not_mem_nil, or_false] at hp
  rcases hp with rfl | rfl | rfl | rfl <;> exact dec_no _ _ (by decide)

theorem addr_back (a : Nat) (h : a < 4294967296) : addrO (bs (dotsB a)) = some a := by
  unfold addrO
  rw [bs_data, dotsB_pieces]
  simp only [List.map_cons, List.map_nil]
  rw [upToO_dec 255 _ (by omega) (by omega), upToO_dec 255 _ (by omega) (by omega), upToO_dec 255 _ (by omega) (by omega), upToO_dec 255 _ (by omega) (by omega)]
  simp only [addrL]
  congr 1
  omega

theorem addrL_some {l : List (Option Nat)} {v : Nat} (h : addrL l = some v) : ∃ a b c d, l = [some a, some b, some c, some d] ∧ v = ((a * 256 + b) * 256 + c) * 256 + d := by
  unfold addrL at h
  split at h
  · injection h with h; exact ⟨_, _, _, _, rfl, h.symm⟩
  · cases h

theorem addr_is (s : ByteArray) (v : Nat) (h : addrO s = some v) : v < 4294967296 ∧ s = bs (dotsB v) := by
  obtain ⟨a, b, c, d, hl, hv⟩ := addrL_some h
  have hlen := congrArg List.length hl
  rw [List.length_map] at hlen
  match hp : piecesL 46 s.data.toList, hlen with
  | [p, q, r, t], _ =>
    rw [hp] at hl
    simp only [List.map_cons, List.map_nil, List.cons.injEq, and_true] at hl
    obtain ⟨h1, h2, h3, h4⟩ := hl
    obtain ⟨k1, e1⟩ := upToO_is _ _ _ h1
    obtain ⟨k2, e2⟩ := upToO_is _ _ _ h2
    obtain ⟨k3, e3⟩ := upToO_is _ _ _ h3
    obtain ⟨k4, e4⟩ := upToO_is _ _ _ h4
    refine ⟨by omega, ?_⟩
    have hj := pieces_join 46 s.data.toList
    rw [hp, bs_inj e1, bs_inj e2, bs_inj e3, bs_inj e4] at hj
    rw [← bs_of s, ← hj]
    unfold dotsB
    rw [show v / 16777216 % 256 = a by omega, show v / 65536 % 256 = b by omega, show v / 256 % 256 = c by omega, show v % 256 = d by omega]

/-! ### Nets -/

/-- An address with 0 behind its first bits. -/
def firstN (bits a : Nat) : Nat := a / 2 ^ (32 - bits) * 2 ^ (32 - bits)
def rightB (a : Nat) (bits : Int) : Bool := decide (0 ≤ bits) && decide (bits ≤ 32) && decide (firstN bits.toNat a = a)
def inB (n : Nat) (bits : Int) (a : Nat) : Bool := rightB n bits && decide (firstN bits.toNat a = n)
def slashL (a : Nat) (bits : Int) : List UInt8 := if rightB a bits = true then dotsB a ++ 47 :: decB bits.toNat else []
def netL : List (List UInt8) → Option (Nat × Nat)
  | [x, y] => match addrO (bs x), upToO 32 (bs y) with
    | some a, some b => if rightB a b = true then some (a, b) else none
    | _, _ => none
  | _ => none
def netO (s : ByteArray) : Option (Nat × Nat) := netL (piecesL 47 s.data.toList)

theorem dots_no (a : Nat) : (47 : UInt8) ∉ dotsB a := by
  unfold dotsB
  simp only [joinL, List.mem_append, List.mem_cons, not_or]
  refine ⟨dec_no _ _ (by decide), by decide, dec_no _ _ (by decide), by decide, dec_no _ _ (by decide), by decide, dec_no _ _ (by decide)⟩

theorem net_back (a : Nat) (bits : Int) (ha : a < 4294967296) (h : rightB a bits = true) : netO (bs (slashL a bits)) = some (a, bits.toNat) := by
  have hb : 0 ≤ bits ∧ bits ≤ 32 := by
    unfold rightB at h
    simp only [Bool.and_eq_true, decide_eq_true_eq] at h
    exact h.1
  unfold netO slashL
  rw [if_pos h, bs_data, pieces_cut, cutL_hit 47 _ _ (dots_no a), if_pos rfl]
  simp only
  rw [pieces_cut, cutL_miss 47 _ (dec_no _ _ (by decide))]
  simp only [Bool.false_eq_true, if_false, netL]
  rw [addr_back a ha, upToO_dec 32 _ (by omega) (by omega)]
  simp only
  have e : ((bits.toNat : Nat) : Int) = bits := by omega
  rw [e, if_pos h]

theorem net_is (s : ByteArray) (a b : Nat) (h : netO s = some (a, b)) : a < 4294967296 ∧ b ≤ 32 ∧ rightB a b = true ∧ s = bs (slashL a b) := by
  unfold netO at h
  have hj := pieces_join 47 s.data.toList
  match hp : piecesL 47 s.data.toList, h with
  | [x, y], h =>
    rw [hp] at hj
    simp only [netL] at h
    cases h1 : addrO (bs x) with
    | none => rw [h1] at h; cases h
    | some a' =>
      cases h2 : upToO 32 (bs y) with
      | none => rw [h1, h2] at h; cases h
      | some b' =>
        rw [h1, h2] at h
        simp only at h
        by_cases hr : rightB a' b' = true
        · rw [if_pos hr] at h
          injection h with h
          injection h with e1 e2
          subst e1; subst e2
          obtain ⟨k1, q1⟩ := addr_is _ _ h1
          obtain ⟨k2, q2⟩ := upToO_is _ _ _ h2
          refine ⟨k1, k2, hr, ?_⟩
          rw [← bs_of s, ← hj]
          unfold slashL
          rw [if_pos hr, bs_inj q1, bs_inj q2]; rfl
        · rw [if_neg hr] at h; cases h

/-! ### What the loops keep -/

def ixs : Nat → List (List UInt8) → List (Nat × ByteArray)
  | _, [] => []
  | k, p :: ps => (k, bs p) :: ixs (k + 1) ps
theorem ixs_len : ∀ (ps : List (List UInt8)) (k : Nat), (ixs k ps).length = ps.length
  | [], _ => rfl
  | p :: ps, k => by rw [ixs, List.length_cons, ixs_len ps, List.length_cons]
theorem ixs_append : ∀ (ps qs : List (List UInt8)) (k : Nat), ixs k (ps ++ qs) = ixs k ps ++ ixs (k + ps.length) qs
  | [], qs, k => rfl
  | p :: ps, qs, k => by rw [List.cons_append, ixs, ixs_append ps qs, ixs, List.cons_append, List.length_cons]; congr 3; omega

def okA (x : Nat × ByteArray) : Bool := (upToO 255 x.2).isSome && !decide (x.1 = 4)
def stA (s : Nat × Nat) (x : Nat × ByteArray) : Nat × Nat := ((s.1 * 256 + (upToO 255 x.2).getD 0) % 4294967296, x.1)
def fA (xs : List (Nat × ByteArray)) : Nat × Nat := xs.foldl stA (0, 0)
theorem fA_snoc (xs : List (Nat × ByteArray)) (x : Nat × ByteArray) : fA (xs ++ [x]) = stA (fA xs) x := by simp [fA]

theorem opt_some {o : Option Nat} (h : o.isSome = true) : ∃ n, o = some n := by cases o <;> simp_all

theorem okA_all {ps : List (List UInt8)} {v : Nat} (h : addrL (ps.map fun p => upToO 255 (bs p)) = some v) : ∀ x ∈ ixs 0 ps, okA x = true := by
  obtain ⟨a, b, c, d, hl, _⟩ := addrL_some h
  have hlen := congrArg List.length hl
  rw [List.length_map] at hlen
  match ps, hlen with
  | [p, q, r, t], _ =>
    simp only [List.map_cons, List.map_nil, List.cons.injEq, and_true] at hl
    obtain ⟨h1, h2, h3, h4⟩ := hl
    intro x hx
    simp only [ixs, List.mem_cons, List.not_mem_nil, or_false] at hx
    rcases hx with rfl | rfl | rfl | rfl <;> simp [okA, h1, h2, h3, h4]

theorem A_done (ps : List (List UInt8)) (h : ∀ x ∈ ixs 0 ps, okA x = true) : addrL (ps.map fun p => upToO 255 (bs p)) = if (fA (ixs 0 ps)).2 = 3 then some (fA (ixs 0 ps)).1 else none := by
  match ps with
  | [] => rfl
  | [p] => simp [ixs, fA, stA, addrL]
  | [p, q] => simp [ixs, fA, stA, addrL]
  | [p, q, r] => simp [ixs, fA, stA, addrL]
  | [p, q, r, t] =>
    have g : ∀ x ∈ [p, q, r, t], ∃ n, upToO 255 (bs x) = some n ∧ n ≤ 255 := by
      intro x hx
      have : (upToO 255 (bs x)).isSome = true := by
        simp only [ixs, List.mem_cons, List.not_mem_nil, or_false, forall_eq_or_imp, forall_eq, okA, Bool.and_eq_true] at h hx
        rcases hx with rfl | rfl | rfl | rfl
        · exact h.1.1
        · exact h.2.1.1
        · exact h.2.2.1.1
        · exact h.2.2.2.1
      obtain ⟨n, hn⟩ := opt_some this
      exact ⟨n, hn, (upToO_is _ _ _ hn).1⟩
    obtain ⟨a, h1, k1⟩ := g p (by simp)
    obtain ⟨b, h2, k2⟩ := g q (by simp)
    obtain ⟨c, h3, k3⟩ := g r (by simp)
    obtain ⟨d, h4, k4⟩ := g t (by simp)
    simp [ixs, fA, stA, addrL, h1, h2, h3, h4]
    omega
  | p :: q :: r :: t :: u :: ps =>
    have := h (4, bs u) (by simp [ixs])
    simp [okA] at this

theorem A_stop (ps : List (List UInt8)) (pre : List (Nat × ByteArray)) (hp : pre <+: ixs 0 ps) (x : Nat × ByteArray) (hx : x ∈ pre) (hb : okA x = false) : addrL (ps.map fun p => upToO 255 (bs p)) = none := by
  cases h : addrL (ps.map fun p => upToO 255 (bs p)) with
  | none => rfl
  | some v =>
    have := okA_all h x (hp.subset hx)
    rw [hb] at this; cases this

/-- The net's loop: what is right of the pieces that came. -/
def okN (x : Nat × ByteArray) : Bool := match x.1 with
  | 0 => (addrO x.2).isSome
  | 1 => (upToO 32 x.2).isSome
  | _ => false
structure StN where
  addr : Nat
  bits : Nat
  last : Nat
def stN (s : StN) (x : Nat × ByteArray) : StN := match x.1 with
  | 0 => ⟨(addrO x.2).getD 0, s.bits, 0⟩
  | 1 => ⟨s.addr, (upToO 32 x.2).getD 0, 1⟩
  | n + 2 => ⟨s.addr, s.bits, n + 2⟩
def fN (xs : List (Nat × ByteArray)) : StN := xs.foldl stN ⟨0, 0, 0⟩
theorem fN_snoc (xs : List (Nat × ByteArray)) (x : Nat × ByteArray) : fN (xs ++ [x]) = stN (fN xs) x := by simp [fN]

theorem N_done (ps : List (List UInt8)) (h : ∀ x ∈ ixs 0 ps, okN x = true) : netL ps = if (fN (ixs 0 ps)).last = 1 ∧ rightB (fN (ixs 0 ps)).addr (fN (ixs 0 ps)).bits = true then some ((fN (ixs 0 ps)).addr, (fN (ixs 0 ps)).bits) else none := by
  match ps with
  | [] => simp [netL, fN, ixs]
  | [p] => simp [netL, fN, ixs, stN]
  | [p, q] =>
    have h1 := h (0, bs p) (by simp [ixs])
    have h2 := h (1, bs q) (by simp [ixs])
    simp only [okN] at h1 h2
    obtain ⟨a, ha⟩ := opt_some h1
    obtain ⟨b, hb⟩ := opt_some h2
    simp [netL, fN, ixs, stN, ha, hb]
  | p :: q :: r :: ps =>
    have := h (2, bs r) (by simp [ixs])
    simp [okN] at this
theorem N_stop (ps : List (List UInt8)) (pre : List (Nat × ByteArray)) (hp : pre <+: ixs 0 ps) (x : Nat × ByteArray) (hx : x ∈ pre) (hb : okN x = false) : netL ps = none := by
  have hm := hp.subset hx
  match ps with
  | [] => simp [netL]
  | [p] => simp [netL]
  | [p, q] =>
    simp only [ixs, List.mem_cons, List.not_mem_nil, or_false] at hm
    rcases hm with rfl | rfl
    · simp only [okN] at hb
      have : addrO (bs p) = none := by cases h : addrO (bs p) <;> simp_all
      simp [netL, this]
    · simp only [okN] at hb
      have : upToO 32 (bs q) = none := by cases h : upToO 32 (bs q) <;> simp_all
      simp [netL, this]
  | p :: q :: r :: ps => simp [netL]

end Go.Proofs.YtndamiocmdnenaaGreat

/- syntax: first, right, In, upTo: their contracts. -/
namespace Go.Proofs.YtndamiocmdnenaaGreat
set_option linter.unusedVariables false
set_option maxRecDepth 100000
set_option linter.unusedSimpArgs false
open Go.RowKit

theorem firstN_le (bits a : Nat) : firstN bits a ≤ a := Nat.div_mul_le_self _ _
theorem first_cast (bits a : Nat) (ha : a < 4294967296) : (a : Int) / 2 ^ (32 - bits) * 2 ^ (32 - bits) % 4294967296 = (firstN bits a : Int) := by
  have h := firstN_le bits a
  have e : (a : Int) / 2 ^ (32 - bits) * 2 ^ (32 - bits) = ((firstN bits a : Nat) : Int) := by simp [firstN]
  rw [e]; omega

theorem cast_eq (x y : Nat) : ((x : Int) == (y : Int)) = decide (x = y) := by
  by_cases h : x = y
  · subst h; simp
  · rw [decide_eq_false h, beq_eq_false_iff_ne]; omega

end Go.Proofs.YtndamiocmdnenaaGreat

/- A byte of a text, its place a letter. -/
namespace Go.Proofs.YtndamiocmdnenaaGreat
set_option linter.unusedVariables false
set_option maxRecDepth 100000
set_option linter.unusedSimpArgs false
open Go.RowKit

theorem sidx (s : ByteArray) (i v : Nat) (h : i < s.size) (hv : (s.data.toList.getD i 0).toNat = v) (w : World) : (Instr.index 9 (.string s) (.int .i64 (i : Int))).run Tryz.prog w = .ok (.int .u8 (v : Int)) w := by
  subst hv
  rw [run_index_string (P := Tryz.prog) w 9 s .i64 i Tryz.underlying9]
  have e : s.data.toList.getD i 0 = s[i] := by
    have h2 : i < s.data.toList.length := h
    have : s.data.toList[i] = s[i] := by
      show s.data.toList[i] = s.data[i]
      simp
    rw [← this, List.getD, List.getElem?_eq_getElem h2]; rfl
  rw [e]
  simp [h]

end Go.Proofs.YtndamiocmdnenaaGreat

/- syntax: named, Name: their contracts. -/
namespace Go.Proofs.YtndamiocmdnenaaGreat
set_option linter.unusedVariables false
set_option maxRecDepth 100000
set_option linter.unusedSimpArgs false
open Go.RowKit

/-- May a name have that byte? -/
def nmdB (c : UInt8) : Bool := (decide (97 ≤ c.toNat) && decide (c.toNat ≤ 122)) || (decide (48 ≤ c.toNat) && decide (c.toNat ≤ 57)) || decide (c.toNat = 45)
def nameB (s : ByteArray) : Bool := decide (1 ≤ s.size) && decide (s.size ≤ 20) && decide ((s.data.toList.getD 0 0).toNat ≠ 45) && decide ((s.data.toList.getD (s.size - 1) 0).toNat ≠ 45) && s.data.toList.all nmdB

end Go.Proofs.YtndamiocmdnenaaGreat
