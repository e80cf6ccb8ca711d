/- Slices of slices of bytes: what they read as, what the call owns of them, what an append leaves. -/
import Derived.Test.YtndamiocmdnenaaGreatG2
import Derived.Test.YtndamiocmdnenaaGreatRows
import Derived.RangeFuncBox
import Derived.RangeFuncFrom
import Derived.Deep.Matrix
namespace Go.Proofs.YtndamiocmdnenaaGreat
set_option linter.unusedVariables false
set_option maxRecDepth 100000
set_option linter.unusedSimpArgs false
open Go.RowKit

theorem fr_info : (Tryz.prog.info? 30).map (fun i => (i.zero, i.size, i.bytes)) = some (some (.slice none 0 0), 1, 24) := by kernel_rfl

/-- One slice of bytes among others: it reads as l, and lies in no row of slices that was made at block B or behind it. -/
structure El (w : World) (B : Nat) (A : Option Addr) (c : Nat) (l : List UInt8) : Prop where
  cap : l.length ≤ c
  max : c ≤ 9223372036854775807
  nil_ : A = none → l.length = 0 ∧ c = 0
  at_ : l = [] ∨ ∃ b o, A = some ⟨b, o, none⟩ ∧ b < w.heap.size ∧ (∀ cs fr, w.heap[b]? = some (.cells cs 30 fr) → b < B) ∧ ∀ i, (h : i < l.length) → w.cell? ⟨b, o + i, none⟩ = some (.int .u8 ((l[i]).toNat : Int))

theorem El.rb {w : World} {B : Nat} {A : Option Addr} {c : Nat} {l : List UInt8} (h : El w B A c l) : Rb w w.heap.size A l := by
  rcases h.at_ with h0 | ⟨b, o, e, hb, _, hc⟩
  · exact .inl h0
  · exact .inr ⟨b, o, e, hb, hc⟩
theorem El.nil (w : World) (B : Nat) : El w B none 0 [] := ⟨Nat.le_refl _, by omega, fun _ => ⟨rfl, rfl⟩, .inl rfl⟩
/-- Where the block in which it lies has not turned. -/
theorem El.stays {w w' : World} {B : Nat} {A : Option Addr} {c : Nat} {l : List UInt8} (h : El w B A c l) (hs : w.heap.size ≤ w'.heap.size) (hk : ∀ b, b < w.heap.size → (∀ cs fr, w.heap[b]? = some (.cells cs 30 fr) → b < B) → (∃ cs t fr, w.heap[b]? = some (.cells cs t fr)) → w'.heap[b]? = w.heap[b]?) : El w' B A c l := by
  refine ⟨h.cap, h.max, h.nil_, ?_⟩
  rcases h.at_ with h0 | ⟨b, o, e, hb, ht, hc⟩
  · exact .inl h0
  · by_cases hl : l = []
    · exact .inl hl
    have hp : 0 < l.length := List.length_pos_iff.2 hl
    have hcells : ∃ cs t fr, w.heap[b]? = some (.cells cs t fr) := by
      have h0 := hc 0 hp
      obtain ⟨o', ho, hcl⟩ := cells_of_cell h0
      match o', ho, hcl with
      | .cells cs t fr, ho, _ => exact ⟨cs, t, fr, ho⟩
    have e1 := hk b hb ht hcells
    refine .inr ⟨b, o, e, Nat.lt_of_lt_of_le hb hs, fun cs fr => by rw [e1]; exact ht cs fr, fun i hi => ?_⟩
    rw [World.cell?_of_block (w := w) (show w'.heap[b]? = w.heap[b]? from e1)]
    exact hc i hi
theorem El.below {w w' : World} {B : Nat} {A : Option Addr} {c : Nat} {l : List UInt8} (h : El w B A c l) (hb : Below w.heap.size w w') : El w' B A c l := h.stays hb.size (fun b hlt _ _ => hb.block b hlt)
/-- An append to a row of slices, made at B or behind it. -/
theorem El.grown {w w' : World} {B : Nat} {A : Option Addr} {c : Nat} {l : List UInt8} {row : Option Nat} (h : El w B A c l) (hg : w.grownBy w' row) (hr : ∀ g, row = some g → B ≤ g ∧ ∃ cs fr, w.heap[g]? = some (.cells cs 30 fr)) : El w' B A c l :=
  h.stays hg.size (fun b hlt ht _ => hg.block b hlt (fun e => by obtain ⟨h1, cs, fr, h2⟩ := hr b e.symm; have := ht cs fr h2; omega))
/-- A store into a variable of another type. -/
theorem El.box {w : World} {B : Nat} {A : Option Addr} {c : Nat} {l : List UInt8} (h : El w B A c l) {b0 : Nat} {t : TypeId} {v : Value} (hv : Boxed w b0 t v) (hl : ∀ b o, A = some ⟨b, o, none⟩ → b ≠ b0) (u : Value) : El (w.setCell ⟨b0, 0, none⟩ u) B A c l := by
  refine ⟨h.cap, h.max, h.nil_, ?_⟩
  rcases h.at_ with h0 | ⟨b, o, e, hb, ht, hc⟩
  · exact .inl h0
  · have hne := hl b o e
    have e1 : (w.setCell ⟨b0, 0, none⟩ u).heap[b]? = w.heap[b]? := Below.heap_setCell _ _ _ _ hne
    refine .inr ⟨b, o, e, by rw [World.size_setCell]; exact hb, fun cs fr => by rw [e1]; exact ht cs fr, fun i hi => ?_⟩
    rw [World.cell?_of_block (w := w) (show _ = w.heap[b]? from e1)]
    exact hc i hi
theorem El.own (B B' : Nat) (A : Option Addr) (c : Nat) (l : List UInt8) : OwnFrom B' (fun (_ : Unit) W => El W B A c l) := fun _ W W' row hs hg hr =>
  hs.stays hg.size (fun b hlt _ ⟨cs, t, fr, hc⟩ => hg.block b hlt (fun e => by
    obtain ⟨_, o, ho, h2⟩ := hr b e.symm
    rw [hc] at ho; cases ho; cases h2))
theorem OB.el {w : World} {B B' : Nat} {A : Option Addr} {c : Nat} {l : List UInt8} (h : OB w B 5 A c l) (hn : A = none → c = 0) : El w B' A c l := by
  obtain ⟨h1, h2⟩ := h.cap
  refine ⟨h1, h2, fun e => ?_, ?_⟩
  · have := hn e
    omega
  rcases h.2 with ⟨hv, h0⟩ | ⟨g, cap, cur, hv, hg, hh, r⟩
  · exact .inl (List.eq_nil_of_length_eq_zero h0)
  · by_cases h0 : l = []
    · exact .inl h0
    rcases h.rb with h3 | ⟨b, o, e, hb, hc⟩
    · exact .inl h3
    have e4 : g = b := by
      rw [e] at hv
      injection hv with hv1
      injection hv1 with hv1
      injection hv1 with hv1
      exact hv1.symm
    subst e4
    refine .inr ⟨g, o, e, hb, fun cs fr hcs => ?_, hc⟩
    rw [hh] at hcs
    injection hcs with hcs
    injection hcs with _ h5
    exact absurd h5 (by decide)
theorem Rb.el {w : World} {B : Nat} {A : Option Addr} {c : Nat} {l : List UInt8} (h : Rb w B A l) (hB : B ≤ w.heap.size) (hc : l.length ≤ c) (hm : c ≤ 9223372036854775807) (hn : A = none → l.length = 0 ∧ c = 0) : El w B A c l := by
  refine ⟨hc, hm, hn, ?_⟩
  rcases h with h0 | ⟨b, o, e, hb, hcl⟩
  · exact .inl h0
  · exact .inr ⟨b, o, e, by omega, fun _ _ _ => hb, hcl⟩

/-- Values that are slices of bytes, one for each. -/
def Els (w : World) (B : Nat) : List Value → List (List UInt8) → Prop
  | [], [] => True
  | v :: vs, l :: L => (∃ A c, v = .slice A l.length c ∧ El w B A c l) ∧ Els w B vs L
  | _, _ => False
theorem Els.len {w : World} {B : Nat} : ∀ {vs : List Value} {L : List (List UInt8)}, Els w B vs L → vs.length = L.length
  | [], [], _ => rfl
  | v :: vs, l :: L, h => by rw [List.length_cons, List.length_cons, Els.len h.2]
  | [], _ :: _, h => h.elim
  | _ :: _, [], h => h.elim
theorem Els.app {w : World} {B : Nat} : ∀ {vs us : List Value} {L M : List (List UInt8)}, Els w B vs L → Els w B us M → Els w B (vs ++ us) (L ++ M)
  | [], us, [], M, _, k => k
  | v :: vs, us, l :: L, M, h, k => ⟨h.1, Els.app h.2 k⟩
  | [], _, _ :: _, _, h, _ => h.elim
  | _ :: _, _, [], _, h, _ => h.elim
theorem Els.map {w w' : World} {B B' : Nat} (hm : ∀ A c l, El w B A c l → El w' B' A c l) : ∀ {vs : List Value} {L : List (List UInt8)}, Els w B vs L → Els w' B' vs L
  | [], [], _ => trivial
  | v :: vs, l :: L, ⟨⟨A, c, e, h⟩, k⟩ => ⟨⟨A, c, e, hm _ _ _ h⟩, Els.map hm k⟩
  | [], _ :: _, h => h.elim
  | _ :: _, [], h => h.elim
theorem Els.at_ {w : World} {B : Nat} : ∀ {vs : List Value} {L : List (List UInt8)}, Els w B vs L → ∀ i, (h : i < L.length) → ∃ A c, vs[i]? = some (.slice A (L[i]).length c) ∧ El w B A c (L[i])
  | v :: vs, l :: L, ⟨⟨A, c, e, h⟩, k⟩, 0, _ => ⟨A, c, by subst e; rfl, h⟩
  | v :: vs, l :: L, ⟨_, k⟩, i + 1, hi => Els.at_ k i (by simpa using hi)
  | [], [], _, i, hi => absurd hi (by simp)
  | [], _ :: _, h, _, _ => h.elim
  | _ :: _, [], h, _, _ => h.elim
theorem Els.one {w : World} {B : Nat} {A : Option Addr} {c : Nat} {l : List UInt8} (h : El w B A c l) {n : Nat} (hn : l.length = n) : Els w B [.slice A n c] [l] := by subst hn; exact ⟨⟨A, c, rfl, h⟩, trivial⟩
theorem Els.cells {w : World} {B : Nat} {vs : List Value} {L : List (List UInt8)} (h : Els w B vs L) : ∀ u ∈ vs, u.oneCell' = true := by
  intro u hu
  obtain ⟨i, hi, rfl⟩ := List.mem_iff_getElem.1 hu
  obtain ⟨A, c, e, _⟩ := h.at_ i (by rw [← h.len]; exact hi)
  rw [List.getElem?_eq_getElem hi] at e
  injection e with e
  rw [e]; rfl

/-- A slice of slices of bytes reads as L. -/
def Rl (w : World) (B : Nat) (A : Option Addr) (L : List (List UInt8)) : Prop :=
  ∃ vs, Els w B vs L ∧ (vs = [] ∨ ∃ b o, A = some ⟨b, o, none⟩ ∧ b < w.heap.size ∧ ∀ i u, vs[i]? = some u → w.cell? ⟨b, o + i, none⟩ = some u)
theorem Rl.below {w w' : World} {B : Nat} {A : Option Addr} {L : List (List UInt8)} (h : Rl w B A L) (hb : Below w.heap.size w w') : Rl w' B A L := by
  obtain ⟨vs, h1, h2⟩ := h
  refine ⟨vs, h1.map (fun _ _ _ h => h.below hb), ?_⟩
  rcases h2 with h0 | ⟨b, o, e, hlt, hc⟩
  · exact .inl h0
  · exact .inr ⟨b, o, e, Nat.lt_of_lt_of_le hlt hb.size, fun i u hu => (hb.cell (p := ⟨b, o + i, none⟩) hlt).trans (hc i u hu)⟩
/-- An element of it. -/
theorem Rl.at_ {w : World} {B : Nat} {A : Option Addr} {L : List (List UInt8)} (h : Rl w B A L) (i : Nat) (hi : i < L.length) : ∃ b o A' c', A = some ⟨b, o, none⟩ ∧ b < w.heap.size ∧ w.cell? ⟨b, o + i, none⟩ = some (.slice A' (L[i]).length c') ∧ El w B A' c' (L[i]) := by
  obtain ⟨vs, h1, h2⟩ := h
  obtain ⟨A', c', e, hel⟩ := h1.at_ i hi
  rcases h2 with h0 | ⟨b, o, eA, hlt, hc⟩
  · rw [h0] at e; cases e
  · exact ⟨b, o, A', c', eA, hlt, hc i _ e, hel⟩

/-- The call owns the row of slices at A, made at B or behind it. -/
def OL (w : World) (B E : Nat) (A : Option Addr) (c : Nat) (L : List (List UInt8)) : Prop :=
  ∃ vs, w.ownsRow B 30 1 (.slice A L.length c) L.length vs ∧ Els w E vs L
theorem OL.nil (w : World) (B E : Nat) : OL w B E none 0 [] := ⟨[], World.ownsRow_nil w B _ 1, trivial⟩
theorem OL.made (w : World) {B : Nat} (E : Nat) (hB : B ≤ w.heap.size) : OL (w.alloc (.cells #[] 30)) B E (some ⟨w.heap.size, 0, none⟩) 0 [] :=
  ⟨[], World.ownsRow_made (base := B) (e := 30) (size := 1) w #[] 0 hB (by unfold maxLen; omega) (by simp), trivial⟩
theorem OL.cap {w : World} {B E : Nat} {A : Option Addr} {c : Nat} {L : List (List UInt8)} (h : OL w B E A c L) : L.length ≤ c ∧ c ≤ 9223372036854775807 := by
  obtain ⟨vs, h1, _⟩ := h
  rcases h1.2 with ⟨hv, h0⟩ | ⟨g, cap, cur, hv, _, _, hn, hm, _⟩
  · injection hv with _ _ h3
    omega
  · injection hv with _ _ h3
    unfold maxLen at hm
    omega
theorem OL.row {w : World} {B E : Nat} {A : Option Addr} {n c : Nat} {L : List (List UInt8)} (h : OL w B E A c L) (g : Nat) (hn : (Value.slice A n c).ownBlock = some g) : B ≤ g ∧ g < w.heap.size ∧ ∃ cs fr, w.heap[g]? = some (.cells cs 30 fr) := by
  obtain ⟨vs, h1, _⟩ := h
  rcases h1.2 with ⟨hv, _⟩ | ⟨g', cap, cur, hv, hb, hh, _⟩
  · injection hv with h1
    subst h1
    cases hn
  · injection hv with h1
    subst h1
    simp [Value.ownBlock] at hn
    subst hn
    exact ⟨hb, lt_of_block hh, cur, (0, 0), hh⟩
theorem OL.below {w w' : World} {B E : Nat} {A : Option Addr} {c : Nat} {L : List (List UInt8)} (h : OL w B E A c L) (hb : Below w.heap.size w w') : OL w' B E A c L := by
  obtain ⟨vs, h1, h2⟩ := h
  refine ⟨vs, ⟨h1.1, ?_⟩, h2.map (fun _ _ _ h => h.below hb)⟩
  rcases h1.2 with hn | ⟨g, cap, cur, hv, hg, hh, r⟩
  · exact .inl hn
  · exact .inr ⟨g, cap, cur, hv, hg, (hb.block g (lt_of_block hh)).trans hh, r⟩
theorem OL.rl {w : World} {B E : Nat} {A : Option Addr} {c : Nat} {L : List (List UInt8)} (h : OL w B E A c L) : Rl w E A L := by
  obtain ⟨vs, h1, h2⟩ := h
  refine ⟨vs, h2, ?_⟩
  by_cases h0 : vs = []
  · exact .inl h0
  have hp : 0 < L.length := by rw [← h2.len]; exact List.length_pos_iff.2 h0
  obtain ⟨g, cap, hv, hb, hl⟩ := World.ownsRow.form h1 hp
  injection hv with hA
  refine .inr ⟨g, 0, hA, hl, fun i u hu => ?_⟩
  have hi := (List.getElem?_eq_some_iff.1 hu).1
  have hcap := OL.cap ⟨vs, h1, h2⟩
  rw [hA] at h1
  have := World.ownsRow.cellAt h1 i (by rw [h2.len] at hi; omega)
  rw [Nat.zero_add, this, hu]
/-- What was owned from B on is owned from a lower block on. -/
theorem El.low {w : World} {B B' : Nat} {A : Option Addr} {c : Nat} {l : List UInt8} (h : El w B A c l) (hB : B ≤ B') : El w B' A c l := by
  refine ⟨h.cap, h.max, h.nil_, ?_⟩
  rcases h.at_ with h0 | ⟨b, o, e, hb, ht, hc⟩
  · exact .inl h0
  · exact .inr ⟨b, o, e, hb, fun cs fr hh => Nat.lt_of_lt_of_le (ht cs fr hh) hB, hc⟩

theorem OL.nil_ {w : World} {B E : Nat} {A : Option Addr} {c : Nat} {L : List (List UInt8)} (h : OL w B E A c L) (hA : A = none) : L.length = 0 ∧ c = 0 := by
  obtain ⟨vs, h1, _⟩ := h
  rcases h1.2 with ⟨hv, h0⟩ | ⟨g, cap, cur, hv, _⟩
  · injection hv with _ _ h3
    exact ⟨h0, h3⟩
  · rw [hA] at hv; cases hv
end Go.Proofs.YtndamiocmdnenaaGreat
