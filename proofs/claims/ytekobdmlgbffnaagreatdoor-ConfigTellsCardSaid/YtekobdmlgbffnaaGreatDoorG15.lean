/- CgY, CgS, Idx, Cg3, CgP1: texts of this seat, one behind the other. -/
import Derived.Test.YtekobdmlgbffnaaGreatDoorCg2
import Derived.Test.YtekobdmlgbffnaaGreatDoorG5
import Derived.RangeFuncOwn
import Derived.RangeFuncCalls
import Derived.RangeFuncFrom
import Derived.Test.YtekobdmlgbffnaaGreatDoorG3
import Derived.Test.YtekobdmlgbffnaaGreatDoorG1
import Derived.Deep.Cut
import Derived.Deep.CutRange
/- Rows of structs that are whole; what stays when a row has grown. -/
namespace Go.Proofs.YtekobdmlgbffnaaGreatDoor
set_option linter.unusedVariables false
set_option maxRecDepth 100000
set_option linter.unusedSimpArgs false
open Go.RowKit

theorem Bk.ty {w : World} {g g' : Nat} {t t' : TypeId} {cs cs' : Array Value} (h : Bk w g t cs) (h' : Bk w g' t' cs') (ht : t ≠ t') : g ≠ g' := by
  rintro rfl
  have := h.symm.trans h'
  injection this with this
  injection this with _ h2 _
  exact ht h2


/-- Rows that are whole, below E. -/
def Ry {β : Type} (k : Nat) (f : β → Array Value) (t : TypeId) (u : World) (E : Nat) (A : Option Addr) (l : List β) : Prop :=
  l = [] ∨ ∃ g cs, A = some ⟨g, 0, none⟩ ∧ g < E ∧ Bk u g t cs ∧ ∀ i, (h : i < l.length) → ∀ j, j < k → cs[i * k + j]? = (f l[i])[j]?
theorem Ry.rw_ {β : Type} {k : Nat} {f : β → Array Value} {t : TypeId} {u : World} {E : Nat} {A : Option Addr} {l : List β} (h : Ry k f t u E A l) : Rw k f u A l := by
  rcases h with h | ⟨g, cs, e, _, hb, hc⟩
  · exact .inl h
  · exact .inr ⟨g, 0, e, hb.lt, fun i hi j hj => by rw [hb.cell, Nat.zero_add]; exact hc i hi j hj⟩
theorem Ry.keep {β : Type} {k : Nat} {f : β → Array Value} {t : TypeId} {u u' : World} {E E' : Nat} {A : Option Addr} {l : List β} (h : Ry k f t u E A l) (hE : E ≤ E') (hk : ∀ g cs, g < E → Bk u g t cs → Bk u' g t cs) : Ry k f t u' E' A l := by
  rcases h with h | ⟨g, cs, e, hl, hb, hc⟩
  · exact .inl h
  · exact .inr ⟨g, cs, e, by omega, hk g cs hl hb, hc⟩
theorem Ow.ry {β : Type} {k : Nat} {f : β → Array Value} {e : TypeId} {u : World} {B : Nat} {A : Option Addr} {c : Nat} {l : List β} (hf : ∀ x, (f x).size = k) (h : Ow e k f u B A c l) : Ry k f e u u.heap.size A l := by
  by_cases h0 : l = []
  · exact .inl h0
  · have hp : 0 < l.length := List.length_pos_iff.2 h0
    obtain ⟨g, cap, hv, hb, hl⟩ := World.ownsRow.form h hp
    injection hv with h1 _ _
    subst h1
    obtain ⟨_, _, cs, hbk⟩ := h.block 0 g rfl
    refine .inr ⟨g, cs, rfl, hl, hbk, fun i hi j hj => ?_⟩
    have hlt : i * k + j < l.length * k := by
      have h2 : (i + 1) * k ≤ l.length * k := Nat.mul_le_mul_right k (by omega)
      rw [Nat.add_mul, Nat.one_mul] at h2
      omega
    have e1 := World.ownsRow.cellAt h (i * k + j) hlt
    rw [hbk.cell] at e1
    rw [e1, fl_at hf l i hi j hj]

theorem fl_set {β : Type} {k : Nat} {f : β → Array Value} (hf : ∀ x, (f x).size = k) (T : List β) (y y' : β) (j : Nat) (hj : j < k) (v : Value) (hv : f y' = (f y).setIfInBounds j v) : fl f (T ++ [y']) = (fl f (T ++ [y])).set (T.length * k + j) v := by
  rw [fl_app, fl_app, List.set_append_right _ _ (by rw [fl_length hf]; omega), fl_length hf, Nat.add_sub_cancel_left]
  simp [fl, hv]
/-- One cell of the last one turned. -/
theorem Ow.setLast {β : Type} {k : Nat} {f : β → Array Value} {e : TypeId} {u : World} {B g c : Nat} {T : List β} {y : β} (hf : ∀ x, (f x).size = k) (h : Ow e k f u B (some ⟨g, 0, none⟩) c (T ++ [y])) (y' : β) (j : Nat) (hj : j < k) (v : Value) (hv : f y' = (f y).setIfInBounds j v) :
    Ow e k f (u.setCell ⟨g, T.length * k + j, none⟩ v) B (some ⟨g, 0, none⟩) c (T ++ [y']) := by
  have := (World.ownsRow.stored h (T.length * k + j) v).1
  unfold Ow
  rw [fl_set hf T y y' j hj v hv, List.length_append, List.length_singleton]
  rw [List.length_append, List.length_singleton] at this
  exact this

theorem ncs_size : ∀ x : Nt, (ncs x).size = 2 := fun _ => rfl
theorem kcs_size : ∀ x : Tk, (kcs x).size = 3 := fun _ => rfl
theorem tcs_size : ∀ x : Tv, (tcs x).size = 5 := fun _ => rfl
structure Fz (u : World) (E : Nat) (y : Tv) : Prop where
  n : Ry 2 ncs 85 u E y.An y.t.nets
  k : Ry 3 kcs 37 u E y.Ak y.t.toks
  fn : Fit y.An y.t.nets.length y.cn
  fk : Fit y.Ak y.t.toks.length y.ck
structure Lz (u : World) (E : Nat) (y : Tv) : Prop where
  n : ON u E y.An y.cn y.t.nets
  k : OK u E y.Ak y.ck y.t.toks
structure Sm (y : Tv) : Prop where
  lt : ∀ n ∈ y.t.nets, n.addr < 4294967296
  sz : y.t.name.size ≤ 140737488355328
  szk : ∀ k ∈ y.t.toks, k.name.size ≤ 140737488355328 ∧ k.sec.size ≤ 140737488355328

/-- Blocks of other types stay when a row has grown. -/
theorem grown_ty {β : Type} {u u' : World} {B' : Nat} {e t : TypeId} {k n c : Nat} {f : β → Array Value} {A : Option Addr} {l : List β} (hg : u.grownBy u' (Value.slice A n c).ownBlock) (ho : Ow e k f u B' A c l) {g : Nat} {cs : Array Value} (hb : Bk u g t cs) (h : t ≠ e ∨ g < B') : Bk u' g t cs := by
  refine (hg.block g hb.lt (fun e' => ?_)).trans hb
  obtain ⟨h1, _, cs', h2⟩ := ho.block n g e'.symm
  rcases h with h | h
  · exact hb.ty h2 h rfl
  · omega

end Go.Proofs.YtekobdmlgbffnaaGreatDoor

/- What is kept while a configuration is read: its memory. -/
namespace Go.Proofs.YtekobdmlgbffnaaGreatDoor
set_option linter.unusedVariables false
set_option maxRecDepth 100000
set_option linter.unusedSimpArgs false
open Go.RowKit

/-- What may turn while a line is read: block r, and what lies behind B. -/
structure Ch (B r : Nat) (u u' : World) : Prop where
  os : u'.os = u.os
  tape : u'.tape = u.tape
  output : u'.output = u.output
  size : u.heap.size ≤ u'.heap.size
  low : ∀ k, k < B → k < u.heap.size → k ≠ r → u'.heap[k]? = u.heap[k]?
  oth : KeepsOthers u u'
theorem Ch.refl (B r : Nat) (u : World) : Ch B r u u := ⟨rfl, rfl, rfl, Nat.le_refl _, fun _ _ _ _ => rfl, KeepsOthers.refl u⟩
theorem Ch.trans {B r : Nat} {a b c : World} (h : Ch B r a b) (k : Ch B r b c) : Ch B r a c :=
  ⟨k.os.trans h.os, k.tape.trans h.tape, k.output.trans h.output, Nat.le_trans h.size k.size, fun i hi hs hr => (k.low i hi (Nat.lt_of_lt_of_le hs h.size) hr).trans (h.low i hi hs hr), h.oth.trans k.oth⟩
theorem Ch.of {B r : Nat} {u u' : World} (h : Below u.heap.size u u') : Ch B r u u' :=
  ⟨h.os, h.tape, h.output, h.size, fun i _ hs _ => h.block i hs, ⟨h.size, fun i o ho _ => (h.block i (Array.getElem?_eq_some_iff.1 ho).1).trans ho⟩⟩
theorem Ch.alloc {B r : Nat} (u : World) (o : Obj) : Ch B r u (u.alloc o) := Ch.of ((Below.refl _ _).alloc (Nat.le_refl _) o)
theorem Ch.set {B r : Nat} (u : World) {p : Addr} (hp : p.block = r ∨ B ≤ p.block) (v : Value) : Ch B r u (u.setCell p v) :=
  ⟨rfl, rfl, rfl, by rw [World.size_setCell]; exact Nat.le_refl _, fun k hk _ hr => Below.heap_setCell _ _ _ _ (fun e => by rcases hp with h | h <;> omega), KeepsOthers.setCell _ _ _⟩
theorem Ch.grown {β : Type} {B B' r : Nat} {u u' : World} {e : TypeId} {k n c : Nat} {f : β → Array Value} {A : Option Addr} {l : List β} (hg : u.grownBy u' (Value.slice A n c).ownBlock) (ho : Ow e k f u B' A c l) (hB : B ≤ B') : Ch B r u u' :=
  ⟨hg.os, hg.tape, hg.output, hg.size, fun i hi hs _ => hg.block i hs (fun e' => by have := (ho.block n i e'.symm).1; omega),
    KeepsOthers.of_grownBy hg (fun j o hj hh => by
      obtain ⟨_, _, cs, hb⟩ := ho.block n j hj
      have := hh.symm.trans hb
      injection this with this
      rw [this]; rfl)⟩
theorem Ch.drew {B r : Nat} {u u' : World} (h : Ch B r u u') : Ch B r u u'.drew := ⟨h.os, h.tape, h.output, h.size, h.low, h.oth.trans (KeepsOthers.drew _)⟩
theorem Ch.bk {B r : Nat} {u u' : World} (h : Ch B r u u') {g : Nat} {t : TypeId} {cs : Array Value} (hb : Bk u g t cs) (hg : g < B) (hr : g ≠ r) : Bk u' g t cs := (h.low g hg hb.lt hr).trans hb

/-- The configuration x, as far as it was read, lies at block r; its rows behind B; those of its last tenant behind E. -/
structure Sc (u : World) (B r E : Nat) (x : Cv) : Prop where
  blk : Bk u r 65 (ccs x)
  row : OT u B x.A x.c x.ts
  old : ∀ T y, x.ts = T ++ [y] → (∀ z ∈ T, Fz u E z) ∧ Lz u E y
  rB : r < B
  BE : B ≤ E
  ES : E ≤ u.heap.size
  sm : ∀ y ∈ x.ts, Sm y

theorem Sc.on {u u' : World} {B r E : Nat} {x : Cv} (h : Sc u B r E x) (hb : Below u.heap.size u u') : Sc u' B r E x :=
  ⟨h.blk.below hb h.blk.lt, Ow.on h.row hb, fun T y e => ⟨fun z hz => ⟨((h.old T y e).1 z hz).n.keep (Nat.le_refl _) (fun g cs _ hk => hk.below hb hk.lt), ((h.old T y e).1 z hz).k.keep (Nat.le_refl _) (fun g cs _ hk => hk.below hb hk.lt), ((h.old T y e).1 z hz).fn, ((h.old T y e).1 z hz).fk⟩, ⟨Ow.on (h.old T y e).2.n hb, Ow.on (h.old T y e).2.k hb⟩⟩, h.rB, h.BE, Nat.le_trans h.ES hb.size, h.sm⟩
theorem Sc.rc {u : World} {B r E : Nat} {x : Cv} (h : Sc u B r E x) : RC u x := by
  refine ⟨⟨h.row.rw_ (fun _ => rfl), fun z hz => ?_⟩, h.row.fit⟩
  have hs := h.sm z hz
  rcases List.eq_nil_or_concat x.ts with h0 | ⟨T, y, h0⟩
  · rw [h0] at hz; cases hz
  · rw [List.concat_eq_append] at h0
    obtain ⟨k1, k2⟩ := h.old T y h0
    rw [h0] at hz
    rcases List.mem_append.1 hz with hz | hz
    · have := k1 z hz
      exact ⟨this.n.rw_, this.k.rw_, this.fn, this.fk, hs.lt, hs.sz, hs.szk⟩
    · obtain rfl := List.mem_singleton.1 hz
      exact ⟨k2.n.rw_ (fun _ => rfl), k2.k.rw_ (fun _ => rfl), k2.n.fit, k2.k.fit, hs.lt, hs.sz, hs.szk⟩

/-- A tenant more. -/
theorem Sc.addT {u u1 : World} {B r E : Nat} {x : Cv} (h : Sc u B r E x) (t : Tn) (ht : t.nets = []) (hk : t.toks = []) (hs : t.name.size ≤ 140737488355328) {A2 : Option Addr} {c2 n : Nat} (hg : u.grownBy u1 (Value.slice x.A n x.c).ownBlock) (ho : OT u1 B A2 c2 (x.ts ++ [⟨t, none, 0, none, 0⟩])) :
    Sc (u1.setCell ⟨r, 4, none⟩ (.slice A2 (x.ts.length + 1) c2)) B r u1.heap.size ⟨x.wait, x.grace, x.idle, x.lease, x.ts ++ [⟨t, none, 0, none, 0⟩], A2, c2⟩ := by
  have ty : ∀ {t' : TypeId} {g : Nat} {cs : Array Value}, t' ≠ 33 → t' ≠ 65 → Bk u g t' cs → Bk (u1.setCell ⟨r, 4, none⟩ (.slice A2 (x.ts.length + 1) c2)) g t' cs := fun h1 h2 hb =>
    (grown_ty hg h.row hb (.inl h1)).far (p := ⟨r, 4, none⟩) (hb.ty h.blk h2) _
  refine ⟨?_, ho.set (p := ⟨r, 4, none⟩) h.rB _, ?_, h.rB, Nat.le_trans h.BE (Nat.le_trans h.ES hg.size), by rw [World.size_setCell]; exact Nat.le_refl _, ?_⟩
  · have := (grown_ty hg h.row h.blk (.inr h.rB)).set 4 (.slice A2 (x.ts.length + 1) c2)
    have e : (x.ts ++ [(⟨t, none, 0, none, 0⟩ : Tv)]).length = x.ts.length + 1 := by simp
    simp only [ccs, List.setIfInBounds_toArray, List.set_cons_zero, List.set_cons_succ] at this ⊢
    rw [e]
    exact this
  · intro T y e
    obtain ⟨e1, e2⟩ := List.append_inj' e rfl
    injection e2 with e2
    subst e1; subst e2
    refine ⟨fun z hz => ?_, ?_⟩
    · rcases List.eq_nil_or_concat x.ts with h0 | ⟨T, y, h0⟩
      · rw [h0] at hz; cases hz
      · rw [List.concat_eq_append] at h0
        obtain ⟨k1, k2⟩ := h.old T y h0
        rw [h0] at hz
        rcases List.mem_append.1 hz with hz | hz
        · have := k1 z hz
          exact ⟨this.n.keep (Nat.le_trans h.ES hg.size) (fun g cs _ hb => ty (by decide) (by decide) hb), this.k.keep (Nat.le_trans h.ES hg.size) (fun g cs _ hb => ty (by decide) (by decide) hb), this.fn, this.fk⟩
        · obtain rfl := List.mem_singleton.1 hz
          exact ⟨(Ow.ry ncs_size k2.n).keep hg.size (fun g cs _ hb => ty (by decide) (by decide) hb), (Ow.ry kcs_size k2.k).keep hg.size (fun g cs _ hb => ty (by decide) (by decide) hb), k2.n.fit, k2.k.fit⟩
    · have hn : ON (u1.setCell ⟨r, 4, none⟩ (.slice A2 (x.ts.length + 1) c2)) u1.heap.size none 0 t.nets := by rw [ht]; exact Ow.nil _ _
      have hk2 : OK (u1.setCell ⟨r, 4, none⟩ (.slice A2 (x.ts.length + 1) c2)) u1.heap.size none 0 t.toks := by rw [hk]; exact Ow.nil _ _
      exact ⟨hn, hk2⟩
  · intro y hy
    rcases List.mem_append.1 hy with hy | hy
    · exact h.sm y hy
    · obtain rfl := List.mem_singleton.1 hy
      exact ⟨(fun n hn => by rw [show (Tv.t ⟨t, none, 0, none, 0⟩).nets = [] from ht] at hn; cases hn), hs, (fun k hk' => by rw [show (Tv.t ⟨t, none, 0, none, 0⟩).toks = [] from hk] at hk'; cases hk')⟩

/-- The last tenant's row of nets turned. -/
theorem Sc.setN {u u1 : World} {B r E g : Nat} {a0 a1 a2 a3 : Int} {T : List Tv} {y : Tv} {c : Nat} (h : Sc u B r E ⟨a0, a1, a2, a3, T ++ [y], some ⟨g, 0, none⟩, c⟩) {A2 : Option Addr} {c2 n : Nat} {M : List Nt} (hg : u.grownBy u1 (Value.slice y.An n y.cn).ownBlock) (ho : ON u1 E A2 c2 M) (hM : ∀ n ∈ M, n.addr < 4294967296) :
    Sc (u1.setCell ⟨g, T.length * 5 + 3, none⟩ (.slice A2 M.length c2)) B r E ⟨a0, a1, a2, a3, T ++ [⟨{ y.t with nets := M }, A2, c2, y.Ak, y.ck⟩], some ⟨g, 0, none⟩, c⟩ := by
  obtain ⟨k1, k2⟩ := h.old T y rfl
  obtain ⟨hgB, hgS, gcs, hgb⟩ := h.row.block 0 g rfl
  have hB1 : Bk u1 g 33 gcs := grown_ty hg k2.n hgb (.inl (by decide))
  have ty : ∀ {t' : TypeId} {g' : Nat} {cs : Array Value}, t' ≠ 33 → (t' ≠ 85 ∨ g' < E) → Bk u g' t' cs → Bk (u1.setCell ⟨g, T.length * 5 + 3, none⟩ (.slice A2 M.length c2)) g' t' cs := fun h1 h2 hb =>
    (grown_ty hg k2.n hb h2).far (p := ⟨g, T.length * 5 + 3, none⟩) (hb.ty hgb h1) _
  have hrow1 : OT u1 B (some ⟨g, 0, none⟩) c (T ++ [y]) := h.row.keep fun g' cs _ hb => grown_ty hg k2.n hb (.inl (by decide))
  refine ⟨?_, hrow1.setLast tcs_size _ 3 (by omega) _ rfl, ?_, h.rB, h.BE, by rw [World.size_setCell]; exact Nat.le_trans h.ES hg.size, ?_⟩
  · have := ty (by decide) (.inl (by decide)) h.blk
    simp only [ccs, List.length_append, List.length_singleton] at this ⊢
    exact this
  · intro T' y' e
    obtain ⟨e1, e2⟩ := List.append_inj' e rfl
    injection e2 with e2
    subst e1; subst e2
    refine ⟨fun z hz => ?_, ?_⟩
    · have := k1 z hz
      exact ⟨this.n.keep (Nat.le_refl _) (fun g cs hl hb => ty (by decide) (.inr hl) hb), this.k.keep (Nat.le_refl _) (fun g cs _ hb => ty (by decide) (.inl (by decide)) hb), this.fn, this.fk⟩
    · have b1 : ON (u1.setCell ⟨g, T.length * 5 + 3, none⟩ (.slice A2 M.length c2)) E A2 c2 M := ho.keep fun g' cs _ hb => hb.far (p := ⟨g, T.length * 5 + 3, none⟩) (hb.ty hB1 (by decide)) _
      have b2 : OK (u1.setCell ⟨g, T.length * 5 + 3, none⟩ (.slice A2 M.length c2)) E y.Ak y.ck y.t.toks := k2.k.keep fun g' cs _ hb => ty (by decide) (.inl (by decide)) hb
      exact ⟨b1, b2⟩
  · intro z hz
    rcases List.mem_append.1 hz with hz | hz
    · exact h.sm z (List.mem_append.2 (.inl hz))
    · obtain rfl := List.mem_singleton.1 hz
      have := h.sm y (List.mem_append.2 (.inr (List.mem_singleton.2 rfl)))
      exact ⟨hM, this.sz, this.szk⟩
/-- The last tenant's row of tokens turned. -/
theorem Sc.setK {u u1 : World} {B r E g : Nat} {a0 a1 a2 a3 : Int} {T : List Tv} {y : Tv} {c : Nat} (h : Sc u B r E ⟨a0, a1, a2, a3, T ++ [y], some ⟨g, 0, none⟩, c⟩) {A2 : Option Addr} {c2 n : Nat} {M : List Tk} (hg : u.grownBy u1 (Value.slice y.Ak n y.ck).ownBlock) (ho : OK u1 E A2 c2 M) (hM : ∀ k ∈ M, k.name.size ≤ 140737488355328 ∧ k.sec.size ≤ 140737488355328) :
    Sc (u1.setCell ⟨g, T.length * 5 + 4, none⟩ (.slice A2 M.length c2)) B r E ⟨a0, a1, a2, a3, T ++ [⟨{ y.t with toks := M }, y.An, y.cn, A2, c2⟩], some ⟨g, 0, none⟩, c⟩ := by
  obtain ⟨k1, k2⟩ := h.old T y rfl
  obtain ⟨hgB, hgS, gcs, hgb⟩ := h.row.block 0 g rfl
  have hB1 : Bk u1 g 33 gcs := grown_ty hg k2.k hgb (.inl (by decide))
  have ty : ∀ {t' : TypeId} {g' : Nat} {cs : Array Value}, t' ≠ 33 → (t' ≠ 37 ∨ g' < E) → Bk u g' t' cs → Bk (u1.setCell ⟨g, T.length * 5 + 4, none⟩ (.slice A2 M.length c2)) g' t' cs := fun h1 h2 hb =>
    (grown_ty hg k2.k hb h2).far (p := ⟨g, T.length * 5 + 4, none⟩) (hb.ty hgb h1) _
  have hrow1 : OT u1 B (some ⟨g, 0, none⟩) c (T ++ [y]) := h.row.keep fun g' cs _ hb => grown_ty hg k2.k hb (.inl (by decide))
  refine ⟨?_, hrow1.setLast tcs_size _ 4 (by omega) _ rfl, ?_, h.rB, h.BE, by rw [World.size_setCell]; exact Nat.le_trans h.ES hg.size, ?_⟩
  · have := ty (by decide) (.inl (by decide)) h.blk
    simp only [ccs, List.length_append, List.length_singleton] at this ⊢
    exact this
  · intro T' y' e
    obtain ⟨e1, e2⟩ := List.append_inj' e rfl
    injection e2 with e2
    subst e1; subst e2
    refine ⟨fun z hz => ?_, ?_⟩
    · have := k1 z hz
      exact ⟨this.n.keep (Nat.le_refl _) (fun g cs _ hb => ty (by decide) (.inl (by decide)) hb), this.k.keep (Nat.le_refl _) (fun g cs hl hb => ty (by decide) (.inr hl) hb), this.fn, this.fk⟩
    · have b1 : OK (u1.setCell ⟨g, T.length * 5 + 4, none⟩ (.slice A2 M.length c2)) E A2 c2 M := ho.keep fun g' cs _ hb => hb.far (p := ⟨g, T.length * 5 + 4, none⟩) (hb.ty hB1 (by decide)) _
      have b2 : ON (u1.setCell ⟨g, T.length * 5 + 4, none⟩ (.slice A2 M.length c2)) E y.An y.cn y.t.nets := k2.n.keep fun g' cs _ hb => ty (by decide) (.inl (by decide)) hb
      exact ⟨b2, b1⟩
  · intro z hz
    rcases List.mem_append.1 hz with hz | hz
    · exact h.sm z (List.mem_append.2 (.inl hz))
    · obtain rfl := List.mem_singleton.1 hz
      have := h.sm y (List.mem_append.2 (.inr (List.mem_singleton.2 rfl)))
      exact ⟨this.lt, this.sz, hM⟩
end Go.Proofs.YtekobdmlgbffnaaGreatDoor

/- An element of an array by value, its place a letter. Nothing of the program is named here. -/
namespace Go.Proofs.YtekobdmlgbffnaaGreatDoor
set_option linter.unusedVariables false
set_option maxRecDepth 100000
set_option linter.unusedSimpArgs false
open Go.RowKit
theorem run_idx {P : Program} (t e : TypeId) (n : Nat) (cs : Array Value) (i : Nat) (v : Value) (h : P.underlying t = some (.array n e)) (ha : ∀ w, (isAgg e).run P w = .ok false w) (hz : ∀ w, (sizeOf e).run P w = .ok 1 w) (hi : i < n) (hv : cs[i]? = some v) (u : World) :
    (Instr.index t (.agg cs) (.int .i64 (i : Int))).run P u = .ok v u := by
  have h2 : (0 ≤ (i : Int) ∧ (i : Int) < (n : Int)) := by omega
  have h3 : ¬ n ≤ i := by omega
  simp [Instr.index, run_underlying h, asIntOf, h2, h3, go_sem, ha, hz, hv]
end Go.Proofs.YtekobdmlgbffnaaGreatDoor

/- config.Right: its contract. (Written by gen_cg1.py.) -/
namespace Go.Proofs.YtekobdmlgbffnaaGreatDoor
set_option linter.unusedVariables false
set_option maxRecDepth 100000
set_option linter.unusedSimpArgs false
open Go.RowKit

def TimI (a0 a1 a2 a3 : Int) (i : Nat) : Prop := (1 ≤ i → timB a0 = true) ∧ (2 ≤ i → timB a1 = true) ∧ (3 ≤ i → timB a2 = true) ∧ (4 ≤ i → timB a3 = true)
theorem TimI.s0 {a0 a1 a2 a3 : Int} (h : TimI a0 a1 a2 a3 0) (ht : timB a0 = true) : TimI a0 a1 a2 a3 1 := ⟨fun _ => ht, by omega, by omega, by omega⟩
theorem TimI.s1 {a0 a1 a2 a3 : Int} (h : TimI a0 a1 a2 a3 1) (ht : timB a1 = true) : TimI a0 a1 a2 a3 2 := ⟨fun _ => h.1 (by omega), fun _ => ht, by omega, by omega⟩
theorem TimI.s2 {a0 a1 a2 a3 : Int} (h : TimI a0 a1 a2 a3 2) (ht : timB a2 = true) : TimI a0 a1 a2 a3 3 := ⟨fun _ => h.1 (by omega), fun _ => h.2.1 (by omega), fun _ => ht, by omega⟩
theorem TimI.s3 {a0 a1 a2 a3 : Int} (h : TimI a0 a1 a2 a3 3) (ht : timB a3 = true) : TimI a0 a1 a2 a3 4 := ⟨fun _ => h.1 (by omega), fun _ => h.2.1 (by omega), fun _ => h.2.2.1 (by omega), fun _ => ht⟩
theorem timB_bad {n : Int} (h : timB n = false) : n < 1 ∨ 1073741824 < n := by
  unfold timB at h
  simp only [Bool.and_eq_false_iff, decide_eq_false_iff_not] at h
  omega

theorem tim_le' {n : Int} (h : timB n = true) : ¬ n < 1 ∧ ¬ n > 1073741824 := by
  unfold timB at h
  simp only [Bool.and_eq_true, decide_eq_true_eq] at h
  omega
set_option maxRecDepth 100000 in
set_option maxHeartbeats 8000000 in
theorem right_cfg (x : Cv) (w : World) (h : RC w x) : Calls Tryz.prog 13 #[.agg (ccs x)] w fun e w' => e = .returned (.bool (cfgB x.cg)) ∧ Below w.heap.size w w' := by
  obtain ⟨a0, a1, a2, a3, ts, A, c⟩ := x
  show Calls Tryz.prog 13 #[.agg #[.int .i64 a0, .int .i64 a1, .int .i64 a2, .int .i64 a3, .slice A ts.length c]] w _
  obtain ⟨x1, x2⟩ := h
  dsimp only at x1 x2
  have g1 := x2.cap
  have g2 := x2.max
  obtain ⟨v, hv⟩ : ∃ v, cfgB (Cv.cg ⟨a0, a1, a2, a3, ts, A, c⟩) = v := ⟨_, rfl⟩
  rw [hv]
  have hi1 : decide (ts.length ≤ 8) = decide ((ts.length : Int) ≤ 8) := by apply decide_eq_decide.2; omega
  have hv2 : (timB a0 && timB a1 && timB a2 && timB a3 && decide ((ts.length : Int) ≤ 8) && rise ByteArray.empty (ts.map fun x => x.t.name) && ts.all fun x => tenB x.t) = v := by
    rw [← hv, ← hi1]
    unfold cfgB Cv.cg
    simp only [List.length_map, List.map_map, List.all_map]
    rfl
  clear hv
  obtain ⟨n, hn⟩ : ∃ n, ts.length = n := ⟨_, rfl⟩
  have HB0 := Lib.hid (Bx.new w 24 #[.int .i64 a0, .int .i64 a1, .int .i64 a2, .int .i64 a3, .slice A n c])
  have HR1 := Lib.hid (fun u (hu : Bx w w.heap.size 24 #[.int .i64 a0, .int .i64 a1, .int .i64 a2, .int .i64 a3, .slice A n c] u) => (risT_ok A ts n c u (x1.on hu.l) (fun y hy => (x1.each y hy).sz) hn (by omega)).mono (R' := fun e u' => e = .returned (.bool (rise ByteArray.empty (ts.map fun x => x.t.name))) ∧ Bx w w.heap.size 24 #[.int .i64 a0, .int .i64 a1, .int .i64 a2, .int .i64 a3, .slice A n c] u') fun e u' hh => ⟨hh.1, hu.on hh.2⟩)
  have HA1 := Lib.hid (fun u (hu : Bx w w.heap.size 24 #[.int .i64 a0, .int .i64 a1, .int .i64 a2, .int .i64 a3, .slice A n c] u) => (allT_ok A ts n c u (x1.on hu.l) hn (by omega)).mono (R' := fun e u' => e = .returned (.bool (ts.all fun x => tenB x.t)) ∧ Bx w w.heap.size 24 #[.int .i64 a0, .int .i64 a1, .int .i64 a2, .int .i64 a3, .slice A n c] u') fun e u' hh => ⟨hh.1, hu.on hh.2⟩)
  rw [hn] at hv2 ⊢
  have HV := Lib.hid hv2
  clear hn hi1 x1 x2 g1 hv2
  go_enter Tryz.func13, Tryz.ntmps13
  go_wp2
  go_loopw [14] (fun v14 wr => ∃ (i : Nat), i ≤ 4 ∧ v14 = .int .i64 (i : Int) ∧ Hid (TimI a0 a1 a2 a3 i) ∧ Hid (Bx w w.heap.size 24 #[.int .i64 a0, .int .i64 a1, .int .i64 a2, .int .i64 a3, .slice A n c] wr)) (fun v14 _ => 4 - (intOf v14).toNat)
  case atStart => exact ⟨0, by omega, rfl, Lib.hid ⟨by omega, by omega, by omega, by omega⟩, HB0⟩
  case round =>
    obtain ⟨i, hi, rfl, HT, HB⟩ := hrel
    clear HB0
    match i, hi with
    | 0, _ =>
      cases ht : timB a0 with
      | true =>
        obtain ⟨y1, y2⟩ := tim_le' ht
        go_wp2_with (refine wpList_index rfl 89 (.tmp 13) (.tmp 14) rfl _ _ (.int .i64 a0) rfl rfl (run_idx 89 2 4 _ 0 _ Tryz.underlying89 Tryz.isAgg2 Tryz.sizeOf2 (by omega) rfl _) ?_)
        go_roundw
        case rel => exact ⟨1, by omega, by go_num, Lib.hid (HT.out.s0 ht), HB⟩
        case measure => simp [intOf]
      | false =>
        have hvf : v = false := by rw [← HV.out]; simp [ht]
        subst hvf
        rcases timB_bad ht with y1 | y1
        · go_wp2_with (refine wpList_index rfl 89 (.tmp 13) (.tmp 14) rfl _ _ (.int .i64 a0) rfl rfl (run_idx 89 2 4 _ 0 _ Tryz.underlying89 Tryz.isAgg2 Tryz.sizeOf2 (by omega) rfl _) ?_)
          go_ret
          exact ⟨rfl, HB.out.l⟩
        · have y2 : ¬ a0 < 1 := by omega
          go_wp2_with (refine wpList_index rfl 89 (.tmp 13) (.tmp 14) rfl _ _ (.int .i64 a0) rfl rfl (run_idx 89 2 4 _ 0 _ Tryz.underlying89 Tryz.isAgg2 Tryz.sizeOf2 (by omega) rfl _) ?_)
          go_ret
          exact ⟨rfl, HB.out.l⟩
    | 1, _ =>
      cases ht : timB a1 with
      | true =>
        obtain ⟨y1, y2⟩ := tim_le' ht
        go_wp2_with (refine wpList_index rfl 89 (.tmp 13) (.tmp 14) rfl _ _ (.int .i64 a1) rfl rfl (run_idx 89 2 4 _ 1 _ Tryz.underlying89 Tryz.isAgg2 Tryz.sizeOf2 (by omega) rfl _) ?_)
        go_roundw
        case rel => exact ⟨2, by omega, by go_num, Lib.hid (HT.out.s1 ht), HB⟩
        case measure => simp [intOf]
      | false =>
        have hvf : v = false := by rw [← HV.out]; simp [ht]
        subst hvf
        rcases timB_bad ht with y1 | y1
        · go_wp2_with (refine wpList_index rfl 89 (.tmp 13) (.tmp 14) rfl _ _ (.int .i64 a1) rfl rfl (run_idx 89 2 4 _ 1 _ Tryz.underlying89 Tryz.isAgg2 Tryz.sizeOf2 (by omega) rfl _) ?_)
          go_ret
          exact ⟨rfl, HB.out.l⟩
        · have y2 : ¬ a1 < 1 := by omega
          go_wp2_with (refine wpList_index rfl 89 (.tmp 13) (.tmp 14) rfl _ _ (.int .i64 a1) rfl rfl (run_idx 89 2 4 _ 1 _ Tryz.underlying89 Tryz.isAgg2 Tryz.sizeOf2 (by omega) rfl _) ?_)
          go_ret
          exact ⟨rfl, HB.out.l⟩
    | 2, _ =>
      cases ht : timB a2 with
      | true =>
        obtain ⟨y1, y2⟩ := tim_le' ht
        go_wp2_with (refine wpList_index rfl 89 (.tmp 13) (.tmp 14) rfl _ _ (.int .i64 a2) rfl rfl (run_idx 89 2 4 _ 2 _ Tryz.underlying89 Tryz.isAgg2 Tryz.sizeOf2 (by omega) rfl _) ?_)
        go_roundw
        case rel => exact ⟨3, by omega, by go_num, Lib.hid (HT.out.s2 ht), HB⟩
        case measure => simp [intOf]
      | false =>
        have hvf : v = false := by rw [← HV.out]; simp [ht]
        subst hvf
        rcases timB_bad ht with y1 | y1
        · go_wp2_with (refine wpList_index rfl 89 (.tmp 13) (.tmp 14) rfl _ _ (.int .i64 a2) rfl rfl (run_idx 89 2 4 _ 2 _ Tryz.underlying89 Tryz.isAgg2 Tryz.sizeOf2 (by omega) rfl _) ?_)
          go_ret
          exact ⟨rfl, HB.out.l⟩
        · have y2 : ¬ a2 < 1 := by omega
          go_wp2_with (refine wpList_index rfl 89 (.tmp 13) (.tmp 14) rfl _ _ (.int .i64 a2) rfl rfl (run_idx 89 2 4 _ 2 _ Tryz.underlying89 Tryz.isAgg2 Tryz.sizeOf2 (by omega) rfl _) ?_)
          go_ret
          exact ⟨rfl, HB.out.l⟩
    | 3, _ =>
      cases ht : timB a3 with
      | true =>
        obtain ⟨y1, y2⟩ := tim_le' ht
        go_wp2_with (refine wpList_index rfl 89 (.tmp 13) (.tmp 14) rfl _ _ (.int .i64 a3) rfl rfl (run_idx 89 2 4 _ 3 _ Tryz.underlying89 Tryz.isAgg2 Tryz.sizeOf2 (by omega) rfl _) ?_)
        go_roundw
        case rel => exact ⟨4, by omega, by go_num, Lib.hid (HT.out.s3 ht), HB⟩
        case measure => simp [intOf]
      | false =>
        have hvf : v = false := by rw [← HV.out]; simp [ht]
        subst hvf
        rcases timB_bad ht with y1 | y1
        · go_wp2_with (refine wpList_index rfl 89 (.tmp 13) (.tmp 14) rfl _ _ (.int .i64 a3) rfl rfl (run_idx 89 2 4 _ 3 _ Tryz.underlying89 Tryz.isAgg2 Tryz.sizeOf2 (by omega) rfl _) ?_)
          go_ret
          exact ⟨rfl, HB.out.l⟩
        · have y2 : ¬ a3 < 1 := by omega
          go_wp2_with (refine wpList_index rfl 89 (.tmp 13) (.tmp 14) rfl _ _ (.int .i64 a3) rfl rfl (run_idx 89 2 4 _ 3 _ Tryz.underlying89 Tryz.isAgg2 Tryz.sizeOf2 (by omega) rfl _) ?_)
          go_ret
          exact ⟨rfl, HB.out.l⟩
    | 4, _ =>
      obtain ⟨t0, t1, t2, t3⟩ := HT.out
      have hv := HV.out
      rw [t0 (by omega), t1 (by omega), t2 (by omega), t3 (by omega)] at hv
      simp only [Bool.true_and] at hv
      have c4 : wr.cell? ⟨w.heap.size, 4, none⟩ = some (.slice A n c) := HB.out.cell 4
      clear HV HT t0 t1 t2 t3
      cases h1 : decide ((n : Int) ≤ 8) with
      | false =>
        have e : v = false := by rw [← hv]; simp [h1]
        subst e
        clear hv
        go_wp2_with (first | (go_at_call 44; refine (HR1.out _ HB.out).mono ?_; rintro e u2 ⟨rfl, hb⟩; have e4 : u2.cell? ⟨w.heap.size, 4, none⟩ = some (.slice A n c) := hb.cell 4; have HB2 := Lib.hid hb; clear hb) | (go_at_call 45; refine (HA1.out _ HB2.out).mono ?_; rintro e u3 ⟨rfl, hb⟩; have HB3 := Lib.hid hb; clear hb))
        go_ret
        exact ⟨rfl, by first | exact HB3.out.l | exact HB2.out.l | exact HB.out.l⟩
      | true =>
        cases h2 : rise ByteArray.empty (ts.map fun x => x.t.name) with
        | false =>
          rw [h2] at HR1
          have e : v = false := by rw [← hv]; simp [h1, h2]
          subst e
          clear hv
          go_wp2_with (first | (go_at_call 44; refine (HR1.out _ HB.out).mono ?_; rintro e u2 ⟨rfl, hb⟩; have e4 : u2.cell? ⟨w.heap.size, 4, none⟩ = some (.slice A n c) := hb.cell 4; have HB2 := Lib.hid hb; clear hb) | (go_at_call 45; refine (HA1.out _ HB2.out).mono ?_; rintro e u3 ⟨rfl, hb⟩; have HB3 := Lib.hid hb; clear hb))
          go_ret
          exact ⟨rfl, by first | exact HB3.out.l | exact HB2.out.l | exact HB.out.l⟩
        | true =>
          rw [h2] at HR1
          cases h3 : ts.all fun x => tenB x.t with
          | false =>
            rw [h3] at HA1
            have e : v = false := by rw [← hv]; simp [h1, h2, h3]
            subst e
            clear hv
            go_wp2_with (first | (go_at_call 44; refine (HR1.out _ HB.out).mono ?_; rintro e u2 ⟨rfl, hb⟩; have e4 : u2.cell? ⟨w.heap.size, 4, none⟩ = some (.slice A n c) := hb.cell 4; have HB2 := Lib.hid hb; clear hb) | (go_at_call 45; refine (HA1.out _ HB2.out).mono ?_; rintro e u3 ⟨rfl, hb⟩; have HB3 := Lib.hid hb; clear hb))
            go_ret
            exact ⟨rfl, by first | exact HB3.out.l | exact HB2.out.l | exact HB.out.l⟩
          | true =>
            rw [h3] at HA1
            have e : v = true := by rw [← hv]; simp [h1, h2, h3]
            subst e
            clear hv
            go_wp2_with (first | (go_at_call 44; refine (HR1.out _ HB.out).mono ?_; rintro e u2 ⟨rfl, hb⟩; have e4 : u2.cell? ⟨w.heap.size, 4, none⟩ = some (.slice A n c) := hb.cell 4; have HB2 := Lib.hid hb; clear hb) | (go_at_call 45; refine (HA1.out _ HB2.out).mono ?_; rintro e u3 ⟨rfl, hb⟩; have HB3 := Lib.hid hb; clear hb))
            go_ret
            exact ⟨rfl, by first | exact HB3.out.l | exact HB2.out.l | exact HB.out.l⟩
    | i + 5, hi => omega

end Go.Proofs.YtekobdmlgbffnaaGreatDoor

/- config: few, last, times: their contracts. -/
namespace Go.Proofs.YtekobdmlgbffnaaGreatDoor
set_option linter.unusedVariables false
set_option maxRecDepth 100000
set_option linter.unusedSimpArgs false
open Go.RowKit

def fewO (s : ByteArray) : Option Nat := match parseS s with
  | some (n, _) => if n ≤ 8 then some n else none
  | none => none

set_option maxHeartbeats 1000000 in
theorem few_ok (s : ByteArray) (w : World) (hs : s.size ≤ 140737488355328) :
    Calls Tryz.prog 107 #[.string s] w fun e w' => e = .returned (.tuple #[.int .i64 (((fewO s).getD 0 : Nat) : Int), .bool (fewO s).isSome]) ∧ Below w.heap.size w w' := by
  have HP := Lib.hid (fun u => parse_ok s u hs)
  obtain ⟨R, hR⟩ : ∃ R, fewO s = R := ⟨_, rfl⟩
  rw [hR]
  unfold fewO at hR
  cases hp : parseS s with
  | none =>
    rw [hp] at hR HP
    simp only [parE] at HP
    subst hR
    have HQ := Lib.hid (fun u => quota_ok 0 u)
    rw [show quoB 0 = true from rfl] at HQ
    clear hp
    go_enter Tryz.func107, Tryz.ntmps107
    go_wp2_with (first | (go_at_call 106; refine (HP.out _).mono ?_; rintro e w2 ⟨rfl, hb⟩) | (go_at_call 81; refine (HQ.out _).mono ?_; rintro e w3 ⟨rfl, rfl⟩))
    go_returns
    exact ⟨rfl, hb⟩
  | some p =>
    obtain ⟨n, k⟩ := p
    rw [hp] at hR HP
    simp only [parE] at HP hR
    have HQ := Lib.hid (fun u => quota_ok (n : Int) u)
    clear hp
    by_cases h8 : n ≤ 8
    · rw [if_pos h8] at hR
      subst hR
      rw [show quoB (n : Int) = true by unfold quoB; simp; omega] at HQ
      go_enter Tryz.func107, Tryz.ntmps107
      go_wp2_with (first | (go_at_call 106; refine (HP.out _).mono ?_; rintro e w2 ⟨rfl, hb⟩) | (go_at_call 81; refine (HQ.out _).mono ?_; rintro e w3 ⟨rfl, rfl⟩))
      go_returns
      exact ⟨rfl, hb⟩
    · rw [if_neg h8] at hR
      subst hR
      rw [show quoB (n : Int) = false by unfold quoB; simp; omega] at HQ
      go_enter Tryz.func107, Tryz.ntmps107
      go_wp2_with (first | (go_at_call 106; refine (HP.out _).mono ?_; rintro e w2 ⟨rfl, hb⟩) | (go_at_call 81; refine (HQ.out _).mono ?_; rintro e w3 ⟨rfl, rfl⟩))
      go_returns
      exact ⟨rfl, hb⟩

theorem last_none (r : Nat) (A : Option Addr) (c : Nat) (w : World) (c4 : w.cell? ⟨r, 4, none⟩ = some (.slice A 0 c)) :
    Calls Tryz.prog 108 #[.pointer (some ⟨r, 0, none⟩)] w fun e w' => e = .returned (.pointer none) ∧ w = w' := by
  go_enter Tryz.func108, Tryz.ntmps108
  go_wp2
  go_ret
  exact ⟨rfl, rfl⟩
theorem last_some (r g n c : Nat) (w : World) (hn : n + 1 ≤ 9223372036854775807) (c4 : w.cell? ⟨r, 4, none⟩ = some (.slice (some ⟨g, 0, none⟩) (n + 1) c)) :
    Calls Tryz.prog 108 #[.pointer (some ⟨r, 0, none⟩)] w fun e w' => e = .returned (.pointer (some ⟨g, n * 5, none⟩)) ∧ w = w' := by
  obtain ⟨m, hm⟩ : ∃ m, n + 1 = m := ⟨_, rfl⟩
  rw [hm] at c4
  have hp : (m : Int) > 0 := by omega
  have e1 : (m : Int) - 1 = (n : Int) := by omega
  have e2 : (n : Int) < (m : Int) := by omega
  have hnm : n < m := by omega
  have HE := Lib.hid hm
  clear hm
  go_enter Tryz.func108, Tryz.ntmps108
  go_wp2
  go_ret
  exact ⟨by simp, rfl⟩

/-- A row of words. -/
structure Wd (w : World) (B b o : Nat) (L : List ByteArray) : Prop where
  hb : B ≤ b
  bk : ∃ cs, Bk w b 9 cs
  at_ : ∀ i, (h : i < L.length) → w.cell? ⟨b, o + i, none⟩ = some (.string L[i])
theorem Wd.lt {w : World} {B b o : Nat} {L : List ByteArray} (h : Wd w B b o L) : b < w.heap.size := by obtain ⟨cs, k⟩ := h.bk; exact k.lt
theorem Wd.on {w w' : World} {B b o : Nat} {L : List ByteArray} (h : Wd w B b o L) (hb : Below w.heap.size w w') : Wd w' B b o L :=
  ⟨h.hb, (by obtain ⟨cs, k⟩ := h.bk; exact ⟨cs, k.below hb k.lt⟩), fun i hi => (hb.cell (p := ⟨b, o + i, none⟩) h.lt).trans (h.at_ i hi)⟩

def Cv.setT (x : Cv) (j : Nat) (v : Int) : Cv := match j with
  | 0 => { x with wait := v }
  | 1 => { x with grace := v }
  | 2 => { x with idle := v }
  | _ => { x with lease := v }
theorem Sc.setT {u : World} {B r E : Nat} {x : Cv} (h : Sc u B r E x) (j : Nat) (hj : j < 4) (v : Int) : Sc (u.setCell ⟨r, j, none⟩ (.int .i64 v)) B r E (x.setT j v) := by
  have ty : ∀ {t' : TypeId} {g' : Nat} {cs : Array Value}, t' ≠ 65 → Bk u g' t' cs → Bk (u.setCell ⟨r, j, none⟩ (.int .i64 v)) g' t' cs := fun h1 hb => hb.far (p := ⟨r, j, none⟩) (hb.ty h.blk h1) _
  have hts : (x.setT j v).ts = x.ts ∧ (x.setT j v).A = x.A ∧ (x.setT j v).c = x.c := by
    match j, hj with
    | 0, _ => exact ⟨rfl, rfl, rfl⟩
    | 1, _ => exact ⟨rfl, rfl, rfl⟩
    | 2, _ => exact ⟨rfl, rfl, rfl⟩
    | 3, _ => exact ⟨rfl, rfl, rfl⟩
  refine ⟨?_, ?_, ?_, h.rB, h.BE, by rw [World.size_setCell]; exact h.ES, by rw [hts.1]; exact h.sm⟩
  · have := h.blk.set j (.int .i64 v)
    match j, hj with
    | 0, _ => exact this
    | 1, _ => exact this
    | 2, _ => exact this
    | 3, _ => exact this
  · rw [hts.1, hts.2.1, hts.2.2]
    exact h.row.keep fun g cs _ hb => ty (by decide) hb
  · rw [hts.1]
    intro T y e
    obtain ⟨k1, k2⟩ := h.old T y e
    exact ⟨fun z hz => ⟨(k1 z hz).n.keep (Nat.le_refl _) (fun g cs _ hb => ty (by decide) hb), (k1 z hz).k.keep (Nat.le_refl _) (fun g cs _ hb => ty (by decide) hb), (k1 z hz).fn, (k1 z hz).fk⟩, ⟨k2.n.keep fun g cs _ hb => ty (by decide) hb, k2.k.keep fun g cs _ hb => ty (by decide) hb⟩⟩
theorem Wd.set {u : World} {B b o r j : Nat} {L : List ByteArray} (h : Wd u B b o L) (hr : r < B) (v : Value) : Wd (u.setCell ⟨r, j, none⟩ v) B b o L := by
  have := h.hb
  refine ⟨h.hb, (by obtain ⟨cs, k⟩ := h.bk; exact ⟨cs, k.far (p := ⟨r, j, none⟩) (by show b ≠ r; omega) v⟩), fun i hi => ?_⟩
  rw [World.cell?_of_block (w := u) (a := ⟨b, o + i, none⟩) (Below.heap_setCell _ _ _ _ (by show b ≠ r; omega))]
  exact h.at_ i hi

end Go.Proofs.YtekobdmlgbffnaaGreatDoor
