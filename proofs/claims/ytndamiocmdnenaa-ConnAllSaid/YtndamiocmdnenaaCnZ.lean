/- The program's own connections: their memory. -/
import Derived.Test.YtndamiocmdnenaaCnM
import Derived.Test.YtndamiocmdnenaaPuF
import Derived.Test.YtndamiocmdnenaaMapN
namespace Go.Proofs.Ytndamiocmdnenaa
set_option linter.unusedVariables false
set_option maxRecDepth 100000
set_option linter.unusedSimpArgs false
open Go.RowKit Go.Maps

/-- How a pointer in the map reads: by its block's number. -/
def cRP : Value → Option (DataW Unit × List MemPlace)
  | .pointer none => some (.nil, [])
  | .pointer (some ⟨b, 0, none⟩) => some (.lit (.int .u64 (b : Int)), [])
  | _ => none
def cmk : Option Nat → Value
  | none => .pointer none
  | some b => .pointer (some ⟨b, 0, none⟩)
def cen : Option Nat → DataW Unit
  | none => .nil
  | some b => .lit (.int .u64 (b : Int))
theorem cRP_all {v : Value} {y : DataW Unit × List MemPlace} (h : cRP v = some y) : ∃ x, v = cmk x ∧ y = (cen x, []) := by
  unfold cRP at h
  split at h
  · injection h with h; exact ⟨none, rfl, h.symm⟩
  · injection h with h; exact ⟨some _, rfl, h.symm⟩
  · cases h
theorem cen_inj {x y : Option Nat} (h : cen x = cen y) : x = y := by
  cases x <;> cases y <;> simp [cen] at h
  · rfl
  · exact congrArg some (by omega)
theorem kinC : Kin 60 67 cRP cmk cen none :=
  ⟨Try.underlying60, fun w => by kernel_rfl, fun x => by cases x <;> rfl, fun v x ps h => by
    obtain ⟨p, rfl, e⟩ := cRP_all h
    injection e with e _
    rw [cen_inj e], fun v y h => by
    obtain ⟨p, rfl, _⟩ := cRP_all h
    exact ⟨p, rfl⟩⟩
abbrev MnC (u : World) (mb : Nat) (l : List (Int × Option Nat)) : Prop := Mn cRP cen u mb l

/-- Where a connection lies: its own block, its two rings', their rows'. -/
structure Pl where
  p : Nat
  r0 : Nat
  g0 : Nat
  r1 : Nat
  g1 : Nat
def Pl.bs (P : Pl) : List Nat := [P.p, P.r0, P.g0, P.r1, P.g1]
abbrev pecells (P : Pl) (c : Cn) : Array Value := #[.int .u32 c.ad, .pointer (some ⟨P.r0, 0, none⟩), .pointer (some ⟨P.r1, 0, none⟩), .int .i64 (c.cr : Int), .bool c.en]
/-- At a place lies a connection. -/
structure Pe (u : World) (P : Pl) (c : Cn) : Prop where
  bk : Bk u P.p 76 (pecells P c)
  a : Rg u P.r0 P.g0 512 c.q
  b : Rg u P.r1 P.g1 1024 c.w
  nd : P.bs.Nodup
theorem Pe.ke {u u' : World} {P : Pl} {c : Cn} {L : List Nat} (h : Pe u P c) (k : Ke L u u') (hL : ∀ x ∈ P.bs, x ∉ L) : Pe u' P c :=
  ⟨h.bk.ke k (hL _ (by simp [Pl.bs])), h.a.ke k (hL _ (by simp [Pl.bs])) (hL _ (by simp [Pl.bs])), h.b.ke k (hL _ (by simp [Pl.bs])) (hL _ (by simp [Pl.bs])), h.nd⟩
theorem Pe.lt {u : World} {P : Pl} {c : Cn} (h : Pe u P c) : ∀ x ∈ P.bs, x < u.heap.size := by
  intro x hx
  simp only [Pl.bs, List.mem_cons, List.not_mem_nil, or_false] at hx
  rcases hx with rfl | rfl | rfl | rfl | rfl
  · exact h.bk.lt
  · exact h.a.lt.1
  · exact h.a.lt.2
  · exact h.b.lt.1
  · exact h.b.lt.2
/-- No two of a place's blocks are one. -/
structure Dp (P : Pl) : Prop where
  a : P.p ≠ P.r0
  b : P.p ≠ P.g0
  c : P.p ≠ P.r1
  d : P.p ≠ P.g1
  e : P.r0 ≠ P.g0
  f : P.r0 ≠ P.r1
  g : P.r0 ≠ P.g1
  h : P.g0 ≠ P.r1
  i : P.g0 ≠ P.g1
  j : P.r1 ≠ P.g1
theorem dp_of {P : Pl} (h : P.bs.Nodup) : Dp P := by
  simp only [Pl.bs, List.nodup_cons, List.mem_cons, List.not_mem_nil, or_false, not_or, not_false_eq_true, List.nodup_nil, and_true] at h
  obtain ⟨⟨h1, h2, h3, h4⟩, ⟨h5, h6, h7⟩, ⟨h8, h9⟩, h10⟩ := h
  exact ⟨h1, h2, h3, h4, h5, h6, h7, h8, h9, h10⟩
theorem Dp.nd {P : Pl} (h : Dp P) : P.bs.Nodup := by
  simp only [Pl.bs, List.nodup_cons, List.mem_cons, List.not_mem_nil, or_false, not_or, not_false_eq_true, List.nodup_nil, and_true]
  exact ⟨⟨h.a, h.b, h.c, h.d⟩, ⟨h.e, h.f, h.g⟩, ⟨h.h, h.i⟩, h.j⟩
/-- The map's entries. -/
def enC_ (pl : Int → Pl) (l : List (Int × Cn)) : List (Int × Option Nat) := l.map fun x => (x.1, some (pl x.1).p)
/-- At tb lies the table, its map at mb, each connection at its place, in the blocks H. -/
structure Tz (u : World) (H : List Nat) (tb mb : Nat) (pl : Int → Pl) (t : Tc) : Prop where
  tk : Bk u tb 62 #[.map (some mb), .int .i64 (t.la : Int)]
  mp : MnC u mb (enC_ pl t.l)
  at_ : ∀ x ∈ t.l, Pe u (pl x.1) x.2
  ap : ∀ x ∈ t.l, ∀ y ∈ t.l, x.1 ≠ y.1 → ∀ b ∈ (pl x.1).bs, b ∉ (pl y.1).bs
  off : ∀ x ∈ t.l, ∀ b ∈ (pl x.1).bs, b ≠ tb ∧ b ≠ mb ∧ b ∈ H
  ne : tb ≠ mb
  tH : tb ∈ H
  mH : mb ∈ H
/-- At tb lies the program's table, in the blocks H. -/
structure Zc (W u : World) (H : List Nat) (tb : Nat) (t : Tc) : Prop where
  ex : ∃ mb pl, Tz u H tb mb pl t
  l : Below W.heap.size W u
  lo : ∀ y ∈ H, W.heap.size ≤ y
  hi : ∀ y ∈ H, y < u.heap.size
section
variable {W u u' : World} {H H' : List Nat} {tb mb : Nat} {pl : Int → Pl} {t : Tc}
theorem Tz.ke {L : List Nat} (h : Tz u H tb mb pl t) (k : Ke L u u') (hL : ∀ y ∈ H, y ∉ L) : Tz u' H tb mb pl t :=
  ⟨h.tk.ke k (hL _ h.tH), h.mp.ke k (hL _ h.mH), fun x hx => (h.at_ x hx).ke k (fun b hb => hL _ (h.off x hx b hb).2.2), h.ap, h.off, h.ne, h.tH, h.mH⟩
theorem Zc.ke {L : List Nat} (h : Zc W u H tb t) (k : Ke L u u') (hL : ∀ y ∈ H, y ∉ L) (hb : Below W.heap.size W u') : Zc W u' H tb t := by
  obtain ⟨mb, pl, hz⟩ := h.ex
  exact ⟨⟨mb, pl, hz.ke k hL⟩, hb, h.lo, fun y hy => Nat.lt_of_lt_of_le (h.hi y hy) k.size⟩
theorem Zc.on (h : Zc W u H tb t) (hb : Below u.heap.size u u') : Zc W u' H tb t := h.ke (Ke.of hb) (fun _ _ hx => by cases hx) (h.l.trans (hb.mono h.l.size))
theorem Zc.turn {mb : Nat} {pl : Int → Pl} {t' : Tc} (h : Zc W u H tb t) (s : Sp u u' H H') (hz : ∀ y ∈ H', y < u'.heap.size) (z : Tz u' H' tb mb pl t') : Zc W u' H' tb t' :=
  ⟨⟨mb, pl, z⟩, h.l.trans (s.k.below h.l.size h.lo), fun y hy => by
    rcases s.g y hy with e | e
    · exact h.lo y e
    · exact Nat.le_trans h.l.size e, hz⟩
theorem enC_up (pl : Int → Pl) (l : List (Int × Cn)) (i : Int) (c : Cn) : enC_ pl (upC l i c) = enC_ pl l := by
  induction l with
  | nil => rfl
  | cons p l ih =>
    rw [up_cons]
    show (_, _) :: enC_ pl (upC l i c) = (_, _) :: enC_ pl l
    rw [ih]
    by_cases hp : p.1 = i
    · rw [if_pos hp, hp]
    · rw [if_neg hp]
theorem Tz.hit (h : Tz u H tb mb pl t) {i : Int} {c : Cn} (e : t.f i = some c) : (i, c) ∈ t.l ∧ (i, some (pl i).p) ∈ enC_ pl t.l := ⟨fn_some e, List.mem_map.2 ⟨_, fn_some e, rfl⟩⟩
theorem Tz.miss (h : Tz u H tb mb pl t) {i : Int} (e : t.f i = none) : ∀ x ∈ enC_ pl t.l, x.1 ≠ i := by
  intro x hx
  obtain ⟨y, hy, rfl⟩ := List.mem_map.1 hx
  exact fn_none.1 e y hy
/-- One connection has turned, and nothing else. -/
theorem Tz.one (h : Tz u H tb mb pl t) {i : Int} {c c' : Cn} (e : t.f i = some c) {L : List Nat} (k : Ke L u u') (hL : ∀ x ∈ L, x ∈ (pl i).bs) (hp : Pe u' (pl i) c') : Tz u' H tb mb pl (t.up i c') := by
  have hi := (h.hit e).1
  have ho := h.off _ hi
  refine ⟨h.tk.ke k (fun hx => (ho _ (hL _ hx)).1 rfl), ?_, ?_, ?_, ?_, h.ne, h.tH, h.mH⟩
  · show MnC u' mb (enC_ pl (upC t.l i c'))
    rw [enC_up]
    exact h.mp.ke k (fun hx => (ho _ (hL _ hx)).2.1 rfl)
  · intro x hx
    rcases mem_up hx with rfl | hx2
    · exact hp
    · by_cases hxi : x.1 = i
      · have : x = (i, c') := by
          obtain ⟨q, hq, eq⟩ := List.mem_map.1 hx
          by_cases hp2 : q.1 = i
          · rw [if_pos hp2] at eq; exact eq.symm
          · rw [if_neg hp2] at eq; rw [← eq] at hxi; exact absurd hxi hp2
        rw [this]; exact hp
      · exact (h.at_ x hx2).ke k (fun b hb hbL => h.ap x hx2 (i, c) hi hxi b hb (hL b hbL))
  · intro x hx y hy hne
    have key : ∀ z ∈ upC t.l i c', ∃ d, (z.1, d) ∈ t.l := fun z hz => by
      rcases mem_up hz with rfl | hz2
      · exact ⟨c, hi⟩
      · exact ⟨z.2, hz2⟩
    obtain ⟨d, hd⟩ := key x hx
    obtain ⟨d', hd'⟩ := key y hy
    exact h.ap (x.1, d) hd (y.1, d') hd' hne
  · intro x hx
    rcases mem_up hx with rfl | hx2
    · exact h.off (i, c) hi
    · exact h.off x hx2
theorem Tz.bsH (h : Tz u H tb mb pl t) {i : Int} {c : Cn} (e : t.f i = some c) : ∀ x ∈ (pl i).bs, x ∈ H := fun x hx => (h.off _ (h.hit e).1 x hx).2.2
/-- The same for the table at large. -/
theorem Zc.one (hz : Zc W u H tb t) (h : Tz u H tb mb pl t) {i : Int} {c c' : Cn} (e : t.f i = some c) {L : List Nat} (k : Ke L u u') (hL : ∀ x ∈ L, x ∈ (pl i).bs) (hp : Pe u' (pl i) c') : Zc W u' H tb (t.up i c') ∧ Sp u u' H H := by
  have kH : Ke H u u' := k.more (fun x hx => h.bsH e x (hL x hx))
  exact ⟨hz.turn (Sp.of kH) (fun y hy => Nat.lt_of_lt_of_le (hz.hi y hy) kH.size) (h.one e k hL hp), Sp.of kH⟩
theorem up_self {i : Int} {c : Cn} (e : t.f i = some c) (hg : Gc t) : t.up i c = t := by
  have key : ∀ l : List (Int × Cn), fnC l i = some c → (l.map (·.1)).Pairwise (· < ·) → upC l i c = l := by
    intro l
    induction l with
    | nil => intro _ _; rfl
    | cons p l ih =>
      intro h1 h2
      rw [up_cons]
      rw [fn_cons] at h1
      rw [List.map_cons, List.pairwise_cons] at h2
      by_cases hp : p.1 = i
      · rw [if_pos hp] at h1 ⊢
        injection h1 with h1
        rw [up_none (fn_none.2 (fun q hq he => by have := h2.1 q.1 (List.mem_map.2 ⟨q, hq, rfl⟩); omega))]
        rw [← hp, ← h1]
      · rw [if_neg hp] at h1 ⊢
        rw [ih h1 h2.2]
  show (⟨upC t.l i c, t.la⟩ : Tc) = t
  rw [key t.l e hg.up]
/-- A number that is one: of a connection, or of its kind. -/
theorem Tz.wf (h : Tz u H tb mb pl t) {i : Int} {c : Cn} (e : t.f i = some c) : WfN i := h.mp.wf _ (h.hit e).2
end
end Go.Proofs.Ytndamiocmdnenaa
