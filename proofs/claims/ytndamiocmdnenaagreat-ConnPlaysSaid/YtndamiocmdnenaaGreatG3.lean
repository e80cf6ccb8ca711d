/- CnM, PuM, Sp, PuF, MapN, CnZ: texts of this seat, one behind the other. -/
import Derived.Test.YtndamiocmdnenaaGreatG1
import Derived.Test.YtndamiocmdnenaaGreatRing3
import Derived.Test.YtndamiocmdnenaaGreatG2
import Derived.Maps.OwnSet
import Derived.Maps.RangeWalk
/- Connections: what the document asks, as Lean functions. (Nothing of the program's table is named here.) -/
namespace Go.Proofs.YtndamiocmdnenaaGreat
set_option linter.unusedVariables false
set_option maxRecDepth 100000
set_option linter.unusedSimpArgs false

/-- A connection: its address; what came; what waits; its credit; whether it has ended. -/
structure Cn where
  ad : Int
  q : List UInt8
  w : List UInt8
  cr : Nat
  en : Bool
abbrev cn0 (a : Int) : Cn := ⟨a, [], [], 0, false⟩
/-- All connections, by rising numbers; how many there were. -/
structure Tc where
  l : List (Int × Cn)
  la : Nat
abbrev tc0 : Tc := ⟨[], 0⟩
/-- The connection of a number in a list. -/
def fnC : List (Int × Cn) → Int → Option Cn
  | [], _ => none
  | p :: r, i => if p.1 = i then some p.2 else fnC r i
/-- It is another one. -/
def upC (l : List (Int × Cn)) (i : Int) (c : Cn) : List (Int × Cn) := l.map (fun p => if p.1 = i then (i, c) else p)
/-- Without it. -/
def rmC (l : List (Int × Cn)) (i : Int) : List (Int × Cn) := l.filter (fun p => decide (p.1 ≠ i))
def Tc.f (t : Tc) (i : Int) : Option Cn := fnC t.l i
def Tc.up (t : Tc) (i : Int) (c : Cn) : Tc := { t with l := upC t.l i c }
def opC (t : Tc) (a : Int) : (Int × Int) × Tc := if 64 ≤ t.l.length then ((0, 2), t) else ((((t.la + 1 : Nat) : Int), 0), ⟨t.l ++ [(((t.la + 1 : Nat) : Int), cn0 a)], t.la + 1⟩)
def hsC (t : Tc) (i : Int) : Bool := (t.f i).isSome
def clC (t : Tc) (i : Int) : Bool × Tc := if hsC t i = true then (true, { t with l := rmC t.l i }) else (false, t)
def adC (t : Tc) (i : Int) : Int := match t.f i with | none => 0 | some c => c.ad
def alC (t : Tc) : List Int := t.l.map (·.1)
def feC (t : Tc) (i : Int) (B : List UInt8) : Nat × Tc := match t.f i with | none => (0, t) | some c => if c.en = true then (0, t) else (min B.length (512 - c.q.length), t.up i { c with q := c.q ++ B.take (512 - c.q.length) })
def neC (t : Tc) (i : Int) : (List UInt8 × Bool × Int) × Tc := match t.f i with | none => (([], false, 0), t) | some c => if begB c.q = false then (([], false, 61), t) else if lenF c.q = 0 then (([], false, 0), t) else ((partF c.q, true, 0), t.up i { c with q := c.q.drop (lenF c.q) })
def reC (t : Tc) (i : Int) (n : Int) : List UInt8 × Tc := match t.f i with | none => ([], t) | some c => (c.q.take (takeM n c.q.length), t.up i { c with q := c.q.drop (takeM n c.q.length) })
def caC (t : Tc) (i : Int) : Nat := match t.f i with | none => 0 | some c => c.q.length
def saC (t : Tc) (i : Int) (B : List UInt8) : Bool × Tc := match t.f i with | none => (false, t) | some c => if 1024 - c.w.length < B.length then (false, t) else (true, t.up i { c with w := c.w ++ B })
def buC (t : Tc) (i : Int) (n : Int) : Bool × Tc := match t.f i with | none => (false, t) | some c => if n < 0 ∨ 1073741824 < n then (false, t) else (true, t.up i { c with cr := min (c.cr + n.toNat) 1073741824 })
def flC (t : Tc) (i : Int) : List UInt8 × Tc := match t.f i with | none => ([], t) | some c => (c.w.take c.cr, t.up i { c with w := c.w.drop c.cr, cr := c.cr - c.w.length })
def waC (t : Tc) (i : Int) : Nat := match t.f i with | none => 0 | some c => c.w.length
def roC (t : Tc) (i : Int) : Nat := match t.f i with | none => 0 | some c => 1024 - c.w.length
def crC (t : Tc) (i : Int) : Nat := match t.f i with | none => 0 | some c => c.cr
def haC (t : Tc) (i : Int) : Bool × Tc := match t.f i with | none => (false, t) | some c => if c.en = true then (false, t) else (true, t.up i { c with en := true })
def enC (t : Tc) (i : Int) : Bool := match t.f i with | none => false | some c => c.en

theorem fn_cons (p : Int × Cn) (r : List (Int × Cn)) (i : Int) : fnC (p :: r) i = if p.1 = i then some p.2 else fnC r i := rfl
theorem fn_app (l r : List (Int × Cn)) (i : Int) : fnC (l ++ r) i = (fnC l i).or (fnC r i) := by
  induction l with
  | nil => simp [fnC]
  | cons p l ih =>
    rw [List.cons_append, fn_cons, fn_cons, ih]
    split <;> simp
theorem fn_none {l : List (Int × Cn)} {i : Int} : fnC l i = none ↔ ∀ p ∈ l, p.1 ≠ i := by
  induction l with
  | nil => simp [fnC]
  | cons p l ih =>
    rw [fn_cons]
    by_cases h : p.1 = i
    · rw [if_pos h]; simp [h]
    · rw [if_neg h, ih]; simp [h]
theorem fn_some {l : List (Int × Cn)} {i : Int} {c : Cn} (h : fnC l i = some c) : (i, c) ∈ l := by
  induction l with
  | nil => cases h
  | cons p l ih =>
    rw [fn_cons] at h
    by_cases hp : p.1 = i
    · rw [if_pos hp] at h
      injection h with h
      subst h; subst hp
      exact List.mem_cons_self
    · rw [if_neg hp] at h
      exact List.mem_cons_of_mem _ (ih h)
theorem fn_key {l : List (Int × Cn)} {i : Int} : (fnC l i).isSome = true ↔ i ∈ l.map (·.1) := by
  cases h : fnC l i with
  | none =>
    simp only [Option.isSome_none, Bool.false_eq_true, false_iff, List.mem_map, not_exists, not_and]
    exact fun p hp => fn_none.1 h p hp
  | some c => simp only [Option.isSome_some, true_iff]; exact List.mem_map.2 ⟨_, fn_some h, rfl⟩
theorem up_cons (p : Int × Cn) (r : List (Int × Cn)) (i : Int) (c : Cn) : upC (p :: r) i c = (if p.1 = i then (i, c) else p) :: upC r i c := rfl
theorem up_keys (l : List (Int × Cn)) (i : Int) (c : Cn) : (upC l i c).map (·.1) = l.map (·.1) := by
  induction l with
  | nil => rfl
  | cons p l ih =>
    rw [up_cons, List.map_cons, List.map_cons, ih]
    by_cases hp : p.1 = i
    · rw [if_pos hp, hp]
    · rw [if_neg hp]
theorem up_len (l : List (Int × Cn)) (i : Int) (c : Cn) : (upC l i c).length = l.length := List.length_map _
theorem fn_up_same {l : List (Int × Cn)} {i : Int} {c d : Cn} (h : fnC l i = some d) : fnC (upC l i c) i = some c := by
  induction l with
  | nil => cases h
  | cons p l ih =>
    rw [up_cons, fn_cons]
    by_cases hp : p.1 = i
    · rw [if_pos hp, if_pos rfl]
    · rw [if_neg hp, if_neg hp]
      rw [fn_cons, if_neg hp] at h
      exact ih h
theorem fn_up_far {l : List (Int × Cn)} {i j : Int} {c : Cn} (h : j ≠ i) : fnC (upC l i c) j = fnC l j := by
  induction l with
  | nil => rfl
  | cons p l ih =>
    rw [up_cons, fn_cons, fn_cons, ih]
    by_cases hp : p.1 = i
    · rw [if_pos hp, if_neg (fun e => h e.symm), if_neg (fun e => h (e.symm.trans hp))]
    · rw [if_neg hp]
theorem up_none {l : List (Int × Cn)} {i : Int} {c : Cn} (h0 : fnC l i = none) : upC l i c = l := by
  have h := fn_none.1 h0
  clear h0
  induction l with
  | nil => rfl
  | cons p l ih =>
    rw [up_cons, if_neg (h p List.mem_cons_self), ih (fun q hq => h q (List.mem_cons_of_mem _ hq))]
theorem mem_up {l : List (Int × Cn)} {i : Int} {c : Cn} {p : Int × Cn} (h : p ∈ upC l i c) : p = (i, c) ∨ p ∈ l := by
  obtain ⟨q, hq, e⟩ := List.mem_map.1 h
  by_cases hp : q.1 = i
  · rw [if_pos hp] at e; exact .inl e.symm
  · rw [if_neg hp] at e; exact .inr (e ▸ hq)
theorem rm_none {l : List (Int × Cn)} {i : Int} (h : fnC l i = none) : rmC l i = l := by
  have h := fn_none.1 h
  exact List.filter_eq_self.2 (fun p hp => by simpa using h p hp)
theorem fn_rm_same (l : List (Int × Cn)) (i : Int) : fnC (rmC l i) i = none := fn_none.2 (fun p hp => by
  have := (List.mem_filter.1 hp).2
  simpa using this)
theorem fn_rm_far {l : List (Int × Cn)} {i j : Int} (h : j ≠ i) : fnC (rmC l i) j = fnC l j := by
  induction l with
  | nil => rfl
  | cons p l ih =>
    by_cases hp : p.1 = i
    · have e : rmC (p :: l) i = rmC l i := by unfold rmC; rw [List.filter_cons]; simp [hp]
      rw [e, ih, fn_cons, if_neg (fun e => h (e.symm.trans hp))]
    · have e : rmC (p :: l) i = p :: rmC l i := by unfold rmC; rw [List.filter_cons]; simp [hp]
      rw [e, fn_cons, fn_cons, ih]
theorem rm_keys (l : List (Int × Cn)) (i : Int) : (rmC l i).map (·.1) = (l.map (·.1)).filter (fun k => decide (k ≠ i)) := by
  unfold rmC
  rw [List.filter_map]
  rfl
/-- A table that is right. -/
structure Gc (t : Tc) : Prop where
  up : (t.l.map (·.1)).Pairwise (· < ·)
  pos : ∀ k ∈ t.l.map (·.1), 1 ≤ k ∧ k ≤ (t.la : Int)
  few : t.l.length ≤ 64
  fit : ∀ p ∈ t.l, p.2.q.length ≤ 512 ∧ p.2.w.length ≤ 1024 ∧ p.2.cr ≤ 1073741824
theorem Gc.at_ {t : Tc} (h : Gc t) {i : Int} {c : Cn} (e : t.f i = some c) : c.q.length ≤ 512 ∧ c.w.length ≤ 1024 ∧ c.cr ≤ 1073741824 := h.fit _ (fn_some e)
theorem Gc.id_ {t : Tc} (h : Gc t) {i : Int} {c : Cn} (e : t.f i = some c) : 1 ≤ i ∧ i ≤ (t.la : Int) := h.pos i (fn_key.1 (by show (t.f i).isSome = true; rw [e]; rfl))
theorem gc_new : Gc tc0 := ⟨by simp, by simp, by simp, by simp⟩
theorem Gc.up_ {t : Tc} (h : Gc t) (i : Int) {c : Cn} (hc : c.q.length ≤ 512 ∧ c.w.length ≤ 1024 ∧ c.cr ≤ 1073741824) : Gc (t.up i c) := by
  refine ⟨?_, ?_, ?_, fun p hp => ?_⟩
  · show ((upC t.l i c).map (·.1)).Pairwise (· < ·); rw [up_keys]; exact h.up
  · show ∀ k ∈ (upC t.l i c).map (·.1), 1 ≤ k ∧ k ≤ (t.la : Int); rw [up_keys]; exact h.pos
  · show (upC t.l i c).length ≤ 64; rw [up_len]; exact h.few
  · rcases mem_up hp with e | e
    · rw [e]; exact hc
    · exact h.fit p e
theorem gc_open {t : Tc} (h : Gc t) (a : Int) : Gc (opC t a).2 := by
  unfold opC
  by_cases hl : 64 ≤ t.l.length
  · rw [if_pos hl]; exact h
  · rw [if_neg hl]
    have hk := h.pos
    refine ⟨?_, ?_, ?_, ?_⟩
    · show ((t.l ++ [((((t.la + 1 : Nat) : Int)), cn0 a)]).map (·.1)).Pairwise (· < ·)
      rw [List.map_append, List.pairwise_append]
      refine ⟨h.up, by simp, fun x hx y hy => ?_⟩
      simp only [List.map_cons, List.map_nil, List.mem_singleton] at hy
      have := (hk x hx).2
      omega
    · intro k hk2
      rw [List.map_append, List.mem_append] at hk2
      show 1 ≤ k ∧ k ≤ ((t.la + 1 : Nat) : Int)
      rcases hk2 with e | e
      · have := hk k e; omega
      · simp only [List.map_cons, List.map_nil, List.mem_singleton] at e
        omega
    · show (t.l ++ [_]).length ≤ 64
      rw [List.length_append]
      simp only [List.length_cons, List.length_nil]
      omega
    · intro p hp
      rcases List.mem_append.1 hp with e | e
      · exact h.fit p e
      · rw [List.mem_singleton.1 e]; simp
theorem gc_close {t : Tc} (h : Gc t) (i : Int) : Gc (clC t i).2 := by
  unfold clC
  split
  · refine ⟨?_, ?_, ?_, ?_⟩
    · show ((rmC t.l i).map (·.1)).Pairwise (· < ·); rw [rm_keys]; exact h.up.filter _
    · intro k hk; rw [rm_keys] at hk; exact h.pos k (List.mem_filter.1 hk).1
    · exact Nat.le_trans (List.length_filter_le _ _) h.few
    · intro p hp; exact h.fit p (List.mem_filter.1 hp).1
  · exact h
theorem gc_feed {t : Tc} (h : Gc t) (i : Int) (B : List UInt8) : Gc (feC t i B).2 := by
  unfold feC
  split
  · exact h
  · rename_i c e
    split
    · exact h
    · have := h.at_ e
      exact h.up_ i ⟨by show (c.q ++ B.take _).length ≤ 512; rw [List.length_append, List.length_take]; omega, this.2⟩
theorem gc_next {t : Tc} (h : Gc t) (i : Int) : Gc (neC t i).2 := by
  unfold neC
  split
  · exact h
  · rename_i c e
    split
    · exact h
    · split
      · exact h
      · have := h.at_ e
        exact h.up_ i ⟨by show (c.q.drop _).length ≤ 512; rw [List.length_drop]; omega, this.2⟩
theorem gc_rest {t : Tc} (h : Gc t) (i n : Int) : Gc (reC t i n).2 := by
  unfold reC
  split
  · exact h
  · rename_i c e
    have := h.at_ e
    exact h.up_ i ⟨by show (c.q.drop _).length ≤ 512; rw [List.length_drop]; omega, this.2⟩
theorem gc_say {t : Tc} (h : Gc t) (i : Int) (B : List UInt8) : Gc (saC t i B).2 := by
  unfold saC
  split
  · exact h
  · rename_i c e
    split
    · exact h
    · have := h.at_ e
      exact h.up_ i ⟨this.1, by show (c.w ++ B).length ≤ 1024; rw [List.length_append]; omega, this.2.2⟩
theorem gc_bud {t : Tc} (h : Gc t) (i n : Int) : Gc (buC t i n).2 := by
  unfold buC
  split
  · exact h
  · rename_i c e
    split
    · exact h
    · have := h.at_ e
      exact h.up_ i ⟨this.1, this.2.1, by show min _ _ ≤ _; omega⟩
theorem gc_flush {t : Tc} (h : Gc t) (i : Int) : Gc (flC t i).2 := by
  unfold flC
  split
  · exact h
  · rename_i c e
    have := h.at_ e
    exact h.up_ i ⟨this.1, by show (c.w.drop _).length ≤ _; rw [List.length_drop]; omega, by show c.cr - _ ≤ _; omega⟩
theorem gc_half {t : Tc} (h : Gc t) (i : Int) : Gc (haC t i).2 := by
  unfold haC
  split
  · exact h
  · rename_i c e
    split
    · exact h
    · have := h.at_ e
      exact h.up_ i ⟨this.1, this.2⟩
end Go.Proofs.YtndamiocmdnenaaGreat

/- Bytes both ways: what the document asks, as Lean functions. (Begun in round 16, ahead of the landing: nothing of the program is named here.) -/
namespace Go.Proofs.YtndamiocmdnenaaGreat
set_option linter.unusedVariables false
set_option maxRecDepth 100000
set_option linter.unusedSimpArgs false

/-- A way: what waits, whether its side has ended, whether that went out, how many bytes went out. -/
structure Wy where
  q : List UInt8
  en : Bool
  to : Bool
  mv : Int
/-- Both ways, by the sides at which bytes come in; whether all is broken. -/
structure Pu where
  a : Wy
  b : Wy
  br : Bool
abbrev wy0 : Wy := ⟨[], false, false, 0⟩
abbrev pu0 : Pu := ⟨wy0, wy0, false⟩
/-- The way of a side (true: 1). -/
def Pu.w (p : Pu) (k : Bool) : Wy := if k = true then p.b else p.a
def Pu.up (p : Pu) (k : Bool) (x : Wy) : Pu := if k = true then { p with b := x } else { p with a := x }
/-- Which side a number is. -/
def sdK (s : Int) : Option Bool := if s = 0 then some false else if s = 1 then some true else none
def inP (m : Nat) (p : Pu) (s : Int) (B : List UInt8) : Nat × Pu :=
  match sdK s with
  | none => (0, p)
  | some k => if (p.br || (p.w k).en) = true then (0, p) else (min B.length (m - (p.w k).q.length), p.up k { p.w k with q := (p.w k).q ++ B.take (m - (p.w k).q.length) })
def endP (p : Pu) (s : Int) : Bool × Pu :=
  match sdK s with
  | none => (false, p)
  | some k => if (p.br || (p.w k).en) = true then (false, p) else (true, p.up k { p.w k with en := true })
/-- Does the end of a way go out with so many bytes? -/
def enO (x : Wy) (t : Nat) : Bool := x.en && decide (x.q.length = t) && !x.to
def outP (p : Pu) (s : Int) (n : Int) : (List UInt8 × Bool) × Pu :=
  match sdK s with
  | none => (([], false), p)
  | some k => if p.br = true then (([], false), p) else
      (((p.w !k).q.take (takeM n (p.w !k).q.length), enO (p.w !k) (takeM n (p.w !k).q.length)),
        p.up (!k) ⟨(p.w !k).q.drop (takeM n (p.w !k).q.length), (p.w !k).en, (p.w !k).to || enO (p.w !k) (takeM n (p.w !k).q.length), (p.w !k).mv + (takeM n (p.w !k).q.length : Nat)⟩)
def brP (p : Pu) : Pu := ⟨{ p.a with q := [] }, { p.b with q := [] }, true⟩
def ovP (p : Pu) : Bool := p.br || (p.a.to && p.b.to)
def mvP (p : Pu) (s : Int) : Int := match sdK s with | none => 0 | some k => (p.w !k).mv
def wtP (p : Pu) (s : Int) : Nat := match sdK s with | none => 0 | some k => (p.w !k).q.length
def rmP (m : Nat) (p : Pu) (s : Int) : Nat := match sdK s with | none => 0 | some k => if (p.br || (p.w k).en) = true then 0 else m - (p.w k).q.length
theorem up_w (p : Pu) (k : Bool) (x : Wy) : (p.up k x).w k = x := by cases k <;> rfl
theorem up_o (p : Pu) (k : Bool) (x : Wy) : (p.up k x).w (!k) = p.w (!k) := by cases k <;> rfl
theorem up_br (p : Pu) (k : Bool) (x : Wy) : (p.up k x).br = p.br := by cases k <;> rfl
/-- A pair of ways that is right: of at most m bytes each; what went out at its end has no more. -/
structure Gw (m : Nat) (x : Wy) : Prop where
  le : x.q.length ≤ m
  to : x.to = true → x.en = true ∧ x.q = []
structure Gu (m : Nat) (p : Pu) : Prop where
  a : Gw m p.a
  b : Gw m p.b
theorem Gu.w {m : Nat} {p : Pu} (h : Gu m p) (k : Bool) : Gw m (p.w k) := by cases k; exact h.a; exact h.b
theorem Gu.up {m : Nat} {p : Pu} (h : Gu m p) (k : Bool) {x : Wy} (hx : Gw m x) : Gu m (p.up k x) := by cases k; exact ⟨hx, h.b⟩; exact ⟨h.a, hx⟩
theorem gu_new (m : Nat) : Gu m pu0 := ⟨⟨by simp, fun h => by cases h⟩, ⟨by simp, fun h => by cases h⟩⟩
theorem gu_in {m : Nat} {p : Pu} (h : Gu m p) (s : Int) (B : List UInt8) : Gu m (inP m p s B).2 := by
  unfold inP
  split
  · exact h
  · rename_i k _
    split
    · exact h
    · rename_i hn
      refine h.up k ⟨?_, fun ht => ?_⟩
      · rw [List.length_append, List.length_take]
        have := (h.w k).le
        omega
      · have := ((h.w k).to ht).1
        rw [this, Bool.or_true] at hn
        exact absurd rfl hn
theorem gu_end {m : Nat} {p : Pu} (h : Gu m p) (s : Int) : Gu m (endP p s).2 := by
  unfold endP
  split
  · exact h
  · rename_i k _
    split
    · exact h
    · exact h.up k ⟨(h.w k).le, fun ht => ⟨rfl, ((h.w k).to ht).2⟩⟩
theorem takeM_le2 (n : Int) (k : Nat) : takeM n k ≤ k := by unfold takeM; omega
theorem gu_out {m : Nat} {p : Pu} (h : Gu m p) (s n : Int) : Gu m (outP p s n).2 := by
  unfold outP
  split
  · exact h
  · rename_i k _
    split
    · exact h
    · refine h.up (!k) ⟨?_, fun ht => ?_⟩
      · rw [List.length_drop]
        have := (h.w !k).le
        omega
      · simp only [Bool.or_eq_true] at ht
        rcases ht with ht | ht
        · obtain ⟨h1, h2⟩ := (h.w !k).to ht
          exact ⟨h1, by rw [h2]; simp⟩
        · unfold enO at ht
          simp only [Bool.and_eq_true, decide_eq_true_eq] at ht
          exact ⟨ht.1.1, List.drop_eq_nil_of_le (by have := ht.1.2; omega)⟩
theorem gu_br {m : Nat} {p : Pu} (h : Gu m p) : Gu m (brP p) := ⟨⟨by simp [brP], fun ht => ⟨(h.a.to ht).1, rfl⟩⟩, ⟨by simp [brP], fun ht => ⟨(h.b.to ht).1, rfl⟩⟩⟩
end Go.Proofs.YtndamiocmdnenaaGreat

/- Footprints: lists of blocks that may only grow by new ones. Nothing of the program is named here. -/
namespace Go.Proofs.YtndamiocmdnenaaGreat
set_option linter.unusedVariables false
set_option maxRecDepth 100000
set_option linter.unusedSimpArgs false
open Go.RowKit

/-- From u to u' only the blocks G have turned; G' are these, and new ones. -/
structure Sp (u u' : World) (G G' : List Nat) : Prop where
  k : Ke G u u'
  g : ∀ y ∈ G', y ∈ G ∨ u.heap.size ≤ y
theorem Sp.refl (u : World) (G : List Nat) : Sp u u G G := ⟨Ke.refl _ _, fun _ h => .inl h⟩
theorem Sp.of {u u' : World} {G : List Nat} (h : Ke G u u') : Sp u u' G G := ⟨h, fun _ h => .inl h⟩
theorem Sp.trans {u v w : World} {G G' G'' : List Nat} (h : Sp u v G G') (k : Sp v w G' G'') : Sp u w G G'' :=
  ⟨⟨k.k.os.trans h.k.os, k.k.tape.trans h.k.tape, k.k.output.trans h.k.output, Nat.le_trans h.k.size k.k.size, fun i hi hG => (k.k.block i (Nat.lt_of_lt_of_le hi h.k.size) (fun hx => by
      rcases h.g i hx with e | e
      · exact hG e
      · omega)).trans (h.k.block i hi hG)⟩,
    fun y hy => by
      rcases k.g y hy with e | e
      · exact h.g y e
      · exact .inr (Nat.le_trans h.k.size e)⟩
theorem Ke.sp {u u' : World} {G : List Nat} (k : Ke [] u u') : Sp u u' G G := Sp.of k.nil
/-- At q lie those cells, away from the blocks of G. -/
structure Bz (u : World) (G : List Nat) (q : Nat) (t : TypeId) (cs : Array Value) : Prop where
  b : Bk u q t cs
  n : q ∉ G
theorem Bz.step {u u' : World} {G G' : List Nat} {q : Nat} {t : TypeId} {cs : Array Value} (h : Bz u G q t cs) (s : Sp u u' G G') : Bz u' G' q t cs :=
  ⟨h.b.ke s.k h.n, fun hm => by
    rcases s.g q hm with e | e
    · exact h.n e
    · have := h.b.lt; omega⟩
theorem Bz.alloc {u : World} {G : List Nat} {q : Nat} {t : TypeId} {cs : Array Value} (h : Bz u G q t cs) (o : Obj) : Bz (u.alloc o) G q t cs := ⟨h.b.alloc o, h.n⟩
theorem Bz.on {u u' : World} {G : List Nat} {q : Nat} {t : TypeId} {cs : Array Value} (h : Bz u G q t cs) (hb : Below u.heap.size u u') : Bz u' G q t cs := ⟨h.b.below hb h.b.lt, h.n⟩
theorem Bz.new {u : World} {G : List Nat} (hG : ∀ y ∈ G, y < u.heap.size) (t : TypeId) (cs : Array Value) : Bz (u.alloc (.cells cs t)) G u.heap.size t cs := ⟨Bk.new u t cs, fun hm => by have := hG _ hm; omega⟩
theorem below_dn {w : World} (n : Nat) : Below w.heap.size w (w.drewN n) := ⟨rfl, rfl, rfl, Nat.le_refl _, fun _ _ => rfl⟩
theorem Ke.grown {w w' : World} {a : Nat} (h : w.grownBy w' (some a)) : Ke [a] w w' := ⟨h.os, h.tape, h.output, h.size, fun k hk hn => h.block k hk (fun e => hn (by injection e with e; simp [e]))⟩
theorem Ke.grown0 {w w' : World} (h : w.grownBy w' none) : Ke [] w w' := ⟨h.os, h.tape, h.output, h.size, fun k hk _ => h.block k hk (by simp)⟩
end Go.Proofs.YtndamiocmdnenaaGreat

/- Bytes that were just laid, away from some blocks; bounds of a pump's counts. Nothing of the program is named here. -/
namespace Go.Proofs.YtndamiocmdnenaaGreat
set_option linter.unusedVariables false
set_option maxRecDepth 100000
set_option linter.unusedSimpArgs false
open Go.RowKit

/-- What went out is counted, up to a bound. -/
structure Fu (p : Pu) : Prop where
  a : 0 ≤ p.a.mv ∧ p.a.mv ≤ 1099511627776
  b : 0 ≤ p.b.mv ∧ p.b.mv ≤ 1099511627776
theorem Fu.w {p : Pu} (h : Fu p) (k : Bool) : 0 ≤ (p.w k).mv ∧ (p.w k).mv ≤ 1099511627776 := by cases k; exact h.a; exact h.b
/-- A slice of t bytes, l, in a block at B or behind it, away from H. -/
structure Fs (u : World) (B : Nat) (H : List Nat) (A : Option Addr) (t c : Nat) (l : List UInt8) : Prop where
  len : l.length = t
  cap : t ≤ c
  max : c ≤ 9223372036854775807
  nil_ : A = none → t = 0 ∧ c = 0
  rb : l = [] ∨ ∃ g o, A = some ⟨g, o, none⟩ ∧ B ≤ g ∧ g ∉ H ∧ g < u.heap.size ∧ ∀ i, (h : i < l.length) → u.cell? ⟨g, o + i, none⟩ = some (.int .u8 (l[i].toNat : Int))
theorem Fs.rf {u : World} {B : Nat} {H G : List Nat} {A : Option Addr} {t c : Nat} {l : List UInt8} (h : Fs u B H A t c l) (hG : ∀ y ∈ G, y ∈ H ∨ y < B) : Rf u G A l := by
  rcases h.rb with h0 | ⟨g, o, e, h1, h2, h3, h4⟩
  · exact .inl h0
  · exact .inr ⟨g, o, e, fun hm => by
      rcases hG g hm with h5 | h5
      · exact h2 h5
      · omega, h3, h4⟩
theorem Rf.step {u u' : World} {G G' : List Nat} {A : Option Addr} {l : List UInt8} (h : Rf u G A l) (s : Sp u u' G G') : Rf u' G' A l := by
  rcases h with h0 | ⟨b, o, e, h1, h2, h3⟩
  · exact .inl h0
  · exact .inr ⟨b, o, e, fun hm => by
      rcases s.g b hm with h5 | h5
      · exact h1 h5
      · omega, Nat.lt_of_lt_of_le h2 s.k.size, fun i hi => (World.cell?_of_block (w := u) (a := ⟨b, o + i, none⟩) (s.k.block b h2 h1)).trans (h3 i hi)⟩
theorem Rf.on {u u' : World} {G : List Nat} {A : Option Addr} {l : List UInt8} (h : Rf u G A l) (hb : Below u.heap.size u u') : Rf u' G A l := h.step (Sp.of (Ke.of hb).nil)
/-- A row of bytes that was just laid. -/
theorem lit_pu {u : World} {H : List Nat} {t : TypeId} {l : List UInt8} {fr : Nat × Nat} (hH : ∀ y ∈ H, y < u.heap.size) : Rf (u.alloc (.cells (bcells l) t fr)) H (some ⟨u.heap.size, 0, none⟩) l :=
  .inr ⟨u.heap.size, 0, rfl, fun hm => by have := hH _ hm; omega, by rw [World.size_alloc]; omega, fun i hi => by rw [cell_of_row _ _ _ _ t fr (heap_alloc_new u _), Nat.zero_add, bcells_at l i hi]⟩
end Go.Proofs.YtndamiocmdnenaaGreat

/- Maps from numbers to things that lie whole in their entries, as lists; a range over one. -/
namespace Go.Proofs.YtndamiocmdnenaaGreat
set_option linter.unusedVariables false
set_option maxRecDepth 100000
set_option linter.unusedSimpArgs false
open Go.RowKit Go.Maps

theorem nlaw : Keyed Tryz.prog 3 := int_keyed Tryz.underlying3
abbrev WfN (x : Int) : Prop := (Lit.int .i64 x).wf = true
theorem wfN_of {x : Int} (h0 : 0 ≤ x) (h1 : x ≤ 9223372036854775807) : WfN x := by
  have hmin : IntKind.i64.min = -9223372036854775808 := by decide
  have hmax : IntKind.i64.max = 9223372036854775807 := by decide
  show (decide (IntKind.i64.min ≤ x) && decide (x ≤ IntKind.i64.max)) = true
  rw [hmin, hmax, Bool.and_eq_true, decide_eq_true_iff, decide_eq_true_iff]
  omega
theorem nkey {x : Int} (h : WfN x) : keyOf Tryz.prog 3 (.int .i64 x) = some (.int .i64 x) := keyOf_int_mk Tryz.underlying3 h
theorem nne {a b : Int} (h : a ≠ b) : (Lit.int .i64 a) ≠ (Lit.int .i64 b) := fun e => h (by injection e)
theorem nsame (z s : Int) : (Lit.int .i64 z).sameKey (.int .i64 s) = (z == s) := by
  show decide (IntKind.i64 = IntKind.i64 ∧ z = s) = (z == s)
  by_cases h : z = s <;> simp [h]
/-- A kind of such maps: its type's number, its elements', how they read. -/
structure Kin {α : Type} (T E : TypeId) (R : Value → Option (DataW Unit × List MemPlace)) (mk : α → Value) (en : α → DataW Unit) (z : α) : Prop where
  und : Tryz.prog.underlying T = some (.map 3 E)
  zero : ∀ w, (zeroValue E).run Tryz.prog w = .ok (mk z) w
  rd : ∀ x, R (mk x) = some (en x, [])
  inv : ∀ v x ps, R v = some (en x, ps) → v = mk x
  all : ∀ v y, R v = some y → ∃ x, v = mk x
/-- At mb lies the map of those numbers to those things. -/
structure Mn {α : Type} (R : Value → Option (DataW Unit × List MemPlace)) (en : α → DataW Unit) (u : World) (mb : Nat) (l : List (Int × α)) : Prop where
  few : l.length ≤ 1048576
  ids : l.Pairwise (fun x y => x.1 ≠ y.1)
  wf : ∀ x ∈ l, WfN x.1
  ex : ∃ D, u.ownsMap Tryz.prog 3 R mb l.length D ∧ Maps.size D = l.length ∧ (∀ k, (∃ x ∈ l, x.1 = k) ↔ Maps.has D (.int .i64 k) = true) ∧ ∀ x ∈ l, ∀ zd, D.atKey (.int .i64 x.1) zd = en x.2
theorem nturned_ke {w w' : World} {b : Nat} (h : w.mapTurned w' b) : Ke [b] w w' := by
  have g := h.grown
  exact ⟨g.os, g.tape, g.output, g.size, fun k hk hn => g.block k hk (fun e => hn (by injection e with e; simp [e]))⟩
theorem bk_mapN {w : World} {g g' : Nat} {t : TypeId} {cs : Array Value} (h : Bk w g t cs) (h' : ∃ es ck, w.heap[g']? = some (.map es ck)) : g ≠ g' := by
  rintro rfl
  obtain ⟨es, ck, h2⟩ := h'
  have h1 : w.heap[g]? = some (.cells cs t (0, 0)) := h
  rw [h1] at h2
  cases h2
section
variable {α : Type} {T E : TypeId} {R : Value → Option (DataW Unit × List MemPlace)} {mk : α → Value} {en : α → DataW Unit} {z : α} {u u' : World} {mb : Nat} {l m : List (Int × α)}
theorem Mn.perm (h : Mn R en u mb l) (p : l.Perm m) : Mn R en u mb m := by
  obtain ⟨h0, h1, h2, D, h3, h4, h5, h6⟩ := h
  have e := p.length_eq
  exact ⟨e ▸ h0, (p.pairwise_iff (fun {a b} (e : a.1 ≠ b.1) => e.symm)).1 h1, fun x hx => h2 x (p.mem_iff.2 hx), D, e ▸ h3, e ▸ h4, fun k => by rw [← h5 k]; exact ⟨fun ⟨x, hx, hk⟩ => ⟨x, p.mem_iff.2 hx, hk⟩, fun ⟨x, hx, hk⟩ => ⟨x, p.mem_iff.1 hx, hk⟩⟩, fun x hx => h6 x (p.mem_iff.2 hx)⟩
theorem Mn.lt (h : Mn R en u mb l) : mb < u.heap.size := by
  obtain ⟨_, _, _, D, h3, _⟩ := h
  exact h3.lt
theorem Mn.block (h : Mn R en u mb l) : ∃ es ck, u.heap[mb]? = some (.map es ck) := by
  obtain ⟨_, _, _, D, ⟨es, clock, hb, _⟩, _⟩ := h
  exact ⟨es, clock, hb⟩
theorem Mn.ke {L : List Nat} (h : Mn R en u mb l) (k : Ke L u u') (hm : mb ∉ L) : Mn R en u' mb l := by
  obtain ⟨h0, h1, h2, D, ⟨es, clock, hb, r⟩, h4⟩ := h
  exact ⟨h0, h1, h2, D, ⟨es, clock, (k.block mb (lt_of_block hb) hm).trans hb, r⟩, h4⟩
theorem Mn.hit (h : Mn R en u mb l) (K : Kin T E R mk en z) {k : Int} {y : α} (hx : (k, y) ∈ l) :
    (Instr.lookup T (.map (some mb)) (.int .i64 k) true).run Tryz.prog u = .ok (.tuple #[mk y, .bool true]) u := by
  obtain ⟨h0, h1, h2, D, h3, h4, h5, h6⟩ := h
  obtain ⟨v, ps, hr, hv⟩ := h3.look_ok nlaw K.und (K.zero u) (K.rd z) (nkey (h2 _ hx))
  rw [h6 _ hx] at hv
  have e := K.inv _ _ _ hv
  subst e
  rw [hr, (h5 k).1 ⟨_, hx, rfl⟩]
theorem Mn.miss (h : Mn R en u mb l) (K : Kin T E R mk en z) {k : Int} (hk : WfN k) (hn : ∀ x ∈ l, x.1 ≠ k) :
    (Instr.lookup T (.map (some mb)) (.int .i64 k) true).run Tryz.prog u = .ok (.tuple #[mk z, .bool false]) u := by
  obtain ⟨h0, h1, h2, D, h3, h4, h5, h6⟩ := h
  obtain ⟨v, ps, hr, hv⟩ := h3.look_ok nlaw K.und (K.zero u) (K.rd z) (nkey hk)
  have hf : Maps.has D (.int .i64 k) = false := by
    cases hh : Maps.has D (.int .i64 k)
    · rfl
    · obtain ⟨x, hx, e⟩ := (h5 k).2 hh
      exact absurd e (hn x hx)
  rw [atKey_of_not_has hf] at hv
  have e := K.inv _ _ _ hv
  subst e
  rw [hr, hf]
theorem Mn.len (h : Mn R en u mb l) (K : Kin T E R mk en z) (ty : TypeId) : (Builtin.len_ #[T] ty #[.map (some mb)]).run Tryz.prog u = .ok (.int .i64 (l.length : Int)) u := by
  obtain ⟨h0, h1, h2, D, h3, h4, h5, h6⟩ := h
  rw [h3.len K.und ty, h4]
theorem Mn.store (h : Mn R en u mb l) (K : Kin T E R mk en z) (hl : l.length ≤ 1048575) (k : Int) (y : α) (hk : WfN k) (hn : ∀ x ∈ l, x.1 ≠ k) :
    ∃ w', (Instr.mapUpdate T (.map (some mb)) (.int .i64 k) (mk y)).run Tryz.prog u = .ok () w' ∧ Mn R en w' mb ((k, y) :: l) ∧ Ke [mb] u w' := by
  obtain ⟨h0, h1, h2, D, h3, h4, h5, h6⟩ := h
  obtain ⟨w', hr, h7, h8⟩ := h3.store nlaw K.und (by unfold maxLen; omega) (nkey hk) (K.rd y)
  have hf : Maps.has D (.int .i64 k) = false := by
    cases hh : Maps.has D (.int .i64 k)
    · rfl
    · obtain ⟨x, hx, e⟩ := (h5 k).2 hh
      exact absurd e (hn x hx)
  refine ⟨w', hr, ⟨by simp; omega, List.pairwise_cons.2 ⟨fun x hx => (hn x hx).symm, h1⟩, fun x hx => ?_, D.put (.int .i64 k) (en y), h7, ?_, fun j => ?_, fun x hx zd => ?_⟩, nturned_ke h8⟩
  · rcases List.mem_cons.1 hx with rfl | hx
    · exact hk
    · exact h2 x hx
  · rw [Maps.size_put (h3.tidy nlaw) _, hf, h4]
    simp
  · by_cases e : j = k
    · subst e
      rw [has_put_same h3.isMap (by trivial)]
      simp
    · rw [has_put_other (nne e), ← h5 j]
      simp only [List.mem_cons]
      constructor
      · rintro ⟨x, rfl | hx, e1⟩
        · exact absurd e1.symm e
        · exact ⟨x, hx, e1⟩
      · rintro ⟨x, hx, e1⟩
        exact ⟨x, .inr hx, e1⟩
  · rcases List.mem_cons.1 hx with rfl | hx
    · exact atKey_put_same h3.isMap (by trivial) _ _
    · rw [atKey_put_other (nne (hn x hx))]
      exact h6 x hx zd
theorem Mn.drop {k : Int} {y : α} (h : Mn R en u mb ((k, y) :: l)) (K : Kin T E R mk en z) (ty : TypeId) :
    ∃ w', (Builtin.delete_ #[T, 3] ty #[.map (some mb), .int .i64 k]).run Tryz.prog u = .ok (.tuple #[]) w' ∧ Mn R en w' mb l ∧ Ke [mb] u w' := by
  obtain ⟨h0, h1, h2, D, h3, h4, h5, h6⟩ := h
  obtain ⟨w', hr, h7, h8⟩ := h3.drop nlaw K.und (nkey (h2 (k, y) (List.mem_cons_self ..))) ty
  have hhas := (h5 k).1 ⟨(k, y), List.mem_cons_self .., rfl⟩
  obtain ⟨hn, h1'⟩ := List.pairwise_cons.1 h1
  have hs : Maps.size (D.del (.int .i64 k)) = l.length := by
    have := Maps.size_del (k := .int .i64 k) (h3.tidy nlaw)
    rw [hhas, h4] at this
    simpa using this
  have h7' : w'.ownsMap Tryz.prog 3 R mb l.length (D.del (.int .i64 k)) := by
    obtain ⟨es, clock, hb, F, hsz, e⟩ := h7
    refine ⟨es, clock, hb, F, ?_, e⟩
    rw [e] at hs
    simp only [Maps.size, length_sorted, List.length_map, Array.length_toList] at hs
    omega
  refine ⟨w', hr, ⟨by simp at h0; omega, h1', fun x hx => h2 x (List.mem_cons_of_mem _ hx), D.del (.int .i64 k), h7', hs, fun j => ?_, fun x hx zd => ?_⟩, nturned_ke h8⟩
  · by_cases e : j = k
    · subst e
      rw [has_del_same]
      simp only [Bool.false_eq_true, iff_false]
      rintro ⟨x, hx, e⟩
      exact hn x hx e.symm
    · rw [has_del_other (nne e), ← h5 j]
      constructor
      · rintro ⟨x, hx, e1⟩; exact ⟨x, List.mem_cons_of_mem _ hx, e1⟩
      · rintro ⟨x, hx, e1⟩
        rcases List.mem_cons.1 hx with rfl | hx
        · exact absurd e1.symm e
        · exact ⟨x, hx, e1⟩
  · rw [atKey_del_other (nne (fun e => hn x hx e.symm))]
    exact h6 x (List.mem_cons_of_mem _ hx) zd
/-- A new one. -/
theorem Mn.made (w : World) : Mn R en (w.alloc (.map #[] 0)) w.heap.size [] :=
  ⟨by simp, .nil, (fun _ h => by cases h), ⟨DataW.map [], World.ownsMap_made _ _ _ _, rfl, (fun k => by simp [Maps.has]), (fun x h => by cases h)⟩⟩
/-- A store, as one operation. -/
theorem wp_nstore {ops : Array Oper} {rest : List Oper} {o : Oper} {a : Act} {Q : Exit → Act → World → Prop} (hg : o.guard = none) (m x v : Operand) (hop : o.op = Op.mapUpdate T m x v) (h : Mn R en u mb l) (K : Kin T E R mk en z) (hl : l.length ≤ 1048575)
    (k : Int) (y : α) (hk : WfN k) (hn : ∀ x ∈ l, x.1 ≠ k) (hm : a.eval m = .map (some mb)) (hx : a.eval x = .int .i64 k) (hv : a.eval v = mk y)
    (hK : ∀ w', Mn R en w' mb ((k, y) :: l) → Ke [mb] u w' → wpList Tryz.prog ops Q rest (a.put o.dst undef) w') : wpList Tryz.prog ops Q (o :: rest) a u := by
  refine wpList_plain hg fun K' hK' => ?_
  obtain ⟨w', hrun, r1, r2⟩ := h.store K hl k y hk hn
  unfold Oper.wp
  simp [execOp, hop, hm, hx, hv, hrun, Result.andThen]
  exact hK' _ _ (hK w' r1 r2)
/-- A delete, as one operation. -/
theorem wp_ndrop {ops : Array Oper} {rest : List Oper} {o : Oper} {a : Act} {Q : Exit → Act → World → Prop} (hg : o.guard = none) (m x : Operand) {k : Int} {y : α} (h : Mn R en u mb ((k, y) :: l)) (K : Kin T E R mk en z)
    (hop : o.op = Op.call { callee := Callee.builtin Builtin.delete, args := #[m, x], argTypes := #[T, 3] }) (hm : a.eval m = .map (some mb)) (hx : a.eval x = .int .i64 k)
    (hK : ∀ w', Mn R en w' mb l → Ke [mb] u w' → wpList Tryz.prog ops Q rest (a.put o.dst (.tuple #[])) w') : wpList Tryz.prog ops Q (o :: rest) a u := by
  refine wpList_plain hg fun K' hK' => ?_
  obtain ⟨w', hrun, r1, r2⟩ := h.drop K o.type
  unfold Oper.wp
  simp [execOp, hop, resolve, invoke, builtin, hm, hx, hrun, Result.andThen]
  exact hK' _ _ (hK w' r1 r2)

/-- A range under way: left: which numbers are still to come. -/
def Rn {α : Type} (R : Value → Option (DataW Unit × List MemPlace)) (en : α → DataW Unit) (w : World) (b r : Nat) (l : List (Int × α)) (left : Int → Bool) (cnt : Nat) : Prop :=
  ∃ (D : DataW Unit) (n : Nat) (lf : Lit → Bool), w.ranges Tryz.prog 3 R b r n D lf cnt ∧ (∀ k : Int, lf (.int .i64 k) = left k) ∧ (∀ k, left k = true → ∃ x ∈ l, x.1 = k) ∧ ∀ x ∈ l, ∀ zd, D.atKey (.int .i64 x.1) zd = en x.2
theorem Mn.range (h : Mn R en u mb l) (K : Kin T E R mk en z) :
    ∃ w', (Instr.range T (.map (some mb))).run Tryz.prog u = .ok (.pointer (some ⟨u.heap.size, 0, none⟩)) w' ∧ Rn R en w' mb u.heap.size l (fun k => l.any fun x => x.1 == k) l.length ∧ Ke [] u w' := by
  obtain ⟨h0, h1, h2, D, h3, h4, h5, h6⟩ := h
  obtain ⟨w', hr, q1, q2, q3⟩ := h3.range nlaw K.und
  rw [h4] at q1
  refine ⟨w', hr, ⟨D, _, _, q1, fun k => ?_, fun k hk => ?_, h6⟩, ⟨q2.os, q2.tape, q2.output, q2.size, fun k hk _ => q2.block k hk (by simp)⟩⟩
  · rw [Bool.eq_iff_iff, ← h5 k, List.any_eq_true]
    constructor
    · rintro ⟨x, hx, e⟩; exact ⟨x, hx, by simp [e]⟩
    · rintro ⟨x, hx, e⟩; exact ⟨x, hx, by simpa using e⟩
  · obtain ⟨x, hx, e⟩ := List.any_eq_true.1 hk
    exact ⟨x, hx, by simpa using e⟩
theorem Rn.next {b r cnt : Nat} {left : Int → Bool} (h : Rn R en u b r l left cnt) (K : Kin T E R mk en z) (ty : TypeId) :
    (cnt = 0 ∧ (∀ k, left k = false) ∧ (Instr.next (.pointer (some ⟨r, 0, none⟩)) false ty).run Tryz.prog u = .ok (.tuple #[.bool false]) u) ∨
    ∃ k y w' cnt', (k, y) ∈ l ∧ left k = true ∧ (Instr.next (.pointer (some ⟨r, 0, none⟩)) false ty).run Tryz.prog u = .ok (.tuple #[.bool true, .int .i64 k, mk y]) w' ∧ Rn R en w' b r l (fun j => left j && !(j == k)) cnt' ∧ cnt' < cnt ∧ Ke [r] u w' ∧ w'.heap.size = u.heap.size ∧ (Instr.entry (.pointer (some ⟨r, 0, none⟩))).run Tryz.prog w' = .ok (.tuple #[.int .i64 k, mk y]) w' := by
  obtain ⟨D, n, lf, h1, h2, h3, h4⟩ := h
  rcases h1.next nlaw ty with ⟨k0, k1, k2⟩ | ⟨key, v, kl, y, w', cnt', k0, k1, k2, k3, k4, k5, k6, k7, k8, k9⟩
  · exact .inl ⟨k0, fun s => (h2 s).symm.trans (k1 _), k2⟩
  · right
    obtain ⟨s, rfl, rfl, _⟩ := keyOf_int_inv Tryz.underlying3 k0
    rw [h2] at k1
    obtain ⟨⟨x1, x2⟩, hx, e0⟩ := h3 s k1
    dsimp only at e0
    subst e0
    have e := k3 .nil
    rw [h4 _ hx] at e
    obtain ⟨y1, y2⟩ := y
    dsimp only at e
    subst e
    obtain rfl := K.inv _ _ _ k2
    refine ⟨x1, x2, w', cnt', hx, k1, k4, ⟨D, n, _, k5, fun j => ?_, fun j hj => h3 j (by simp at hj; exact hj.1), h4⟩, k6, ⟨k7.os, k7.tape, k7.output, k7.size, fun k hk hn => k7.block k hk (fun e => hn (by injection e with e; simp [e]))⟩, k8, k9⟩
    rw [h2 j, nsame]
theorem Rn.left_eq {b r cnt : Nat} {left : Int → Bool} (h : Rn R en u b r l left cnt) : u.rangeLeft b r = cnt := by
  obtain ⟨D, n, lf, h1, _⟩ := h
  exact h1.left_eq
theorem Rn.ke {L : List Nat} {b r cnt : Nat} {left : Int → Bool} (h : Rn R en u b r l left cnt) (k : Ke L u u') (hb : b ∉ L) (hr : r ∉ L) : Rn R en u' b r l left cnt := by
  obtain ⟨D, n, lf, ⟨es, clock, since, seen, c0, h1, h2, h3, h4, h5, h6⟩, h7⟩ := h
  exact ⟨D, n, lf, ⟨es, clock, since, seen, c0, (k.block b (lt_of_block h1) hb).trans h1, h2, h3, h4, (k.block r (lt_of_block h5) hr).trans h5, h6⟩, h7⟩
theorem wpList_next_n {ops : Array Oper} {rest : List Oper} {o : Oper} {a : Act} {Q : Exit → Act → World → Prop} {b r cnt : Nat} {left : Int → Bool} (h : Rn R en u b r l left cnt) (K : Kin T E R mk en z) (hg : o.guard = none) (it : Operand) (hop : o.op = Op.next it false) (hit : a.eval it = .pointer (some ⟨r, 0, none⟩))
    (hDone : Hid (∀ k, left k = false) → wpList Tryz.prog ops Q rest (a.put o.dst (.tuple #[.bool false])) u)
    (hMore : ∀ (k : Int) (y : α) (w' : World) (cnt' : Nat), Hid (((k, y) ∈ l ∧ left k = true) ∧ Rn R en w' b r l (fun j => left j && !(j == k)) cnt' ∧ cnt' < cnt ∧ Ke [r] u w' ∧ w'.heap.size = u.heap.size) → (Instr.entry (.pointer (some ⟨r, 0, none⟩))).run Tryz.prog w' = .ok (.tuple #[.int .i64 k, mk y]) w' → wpList Tryz.prog ops Q rest (a.put o.dst (.tuple #[.bool true, .int .i64 k, mk y])) w') :
    wpList Tryz.prog ops Q (o :: rest) a u := by
  refine wpList_plain hg fun K' hK' => ?_
  unfold Oper.wp
  rcases h.next K o.type with ⟨h0, hl, hrun⟩ | ⟨k, y, w', cnt', k1, k2, k3, k4, k5, k6, k7, k8⟩
  · simp [execOp, hop, hit, hrun, Result.andThen]
    exact hK' _ _ (hDone (Lib.hid hl))
  · simp [execOp, hop, hit, k3, Result.andThen]
    exact hK' _ _ (hMore k y w' cnt' (Lib.hid ⟨⟨k1, k2⟩, k4, k5, k6, k7⟩) k8)
end
end Go.Proofs.YtndamiocmdnenaaGreat

/- The program's own connections: their memory. -/
namespace Go.Proofs.YtndamiocmdnenaaGreat
set_option linter.unusedVariables false
set_option maxRecDepth 100000
set_option linter.unusedSimpArgs false
open Go.RowKit Go.Maps

/-- How a pointer in the map reads: by its block's number. -/
def cRP : Value → Option (DataW Unit × List MemPlace)
  | .pointer none => some (.nil, [])
  | .pointer (some ⟨b, 0, none⟩) => some (.lit (.int .u64 (b : Int)), [])
  | _ => none
def cmk : Option Nat → Value
  | none => .pointer none
  | some b => .pointer (some ⟨b, 0, none⟩)
def cen : Option Nat → DataW Unit
  | none => .nil
  | some b => .lit (.int .u64 (b : Int))
theorem cRP_all {v : Value} {y : DataW Unit × List MemPlace} (h : cRP v = some y) : ∃ x, v = cmk x ∧ y = (cen x, []) := by
  unfold cRP at h
  split at h
  · injection h with h; exact ⟨none, rfl, h.symm⟩
  · injection h with h; exact ⟨some _, rfl, h.symm⟩
  · cases h
theorem cen_inj {x y : Option Nat} (h : cen x = cen y) : x = y := by
  cases x <;> cases y <;> simp [cen] at h
  · rfl
  · exact congrArg some (by omega)
theorem kinC : Kin 49 61 cRP cmk cen none :=
  ⟨Tryz.underlying49, fun w => by kernel_rfl, fun x => by cases x <;> rfl, fun v x ps h => by
    obtain ⟨p, rfl, e⟩ := cRP_all h
    injection e with e _
    rw [cen_inj e], fun v y h => by
    obtain ⟨p, rfl, _⟩ := cRP_all h
    exact ⟨p, rfl⟩⟩
abbrev MnC (u : World) (mb : Nat) (l : List (Int × Option Nat)) : Prop := Mn cRP cen u mb l

/-- Where a connection lies: its own block, its two rings', their rows'. -/
structure Pl where
  p : Nat
  r0 : Nat
  g0 : Nat
  r1 : Nat
  g1 : Nat
def Pl.bs (P : Pl) : List Nat := [P.p, P.r0, P.g0, P.r1, P.g1]
abbrev pecells (P : Pl) (c : Cn) : Array Value := #[.int .u32 c.ad, .pointer (some ⟨P.r0, 0, none⟩), .pointer (some ⟨P.r1, 0, none⟩), .int .i64 (c.cr : Int), .bool c.en]
/-- At a place lies a connection. -/
structure Pe (u : World) (P : Pl) (c : Cn) : Prop where
  bk : Bk u P.p 82 (pecells P c)
  a : Rg u P.r0 P.g0 512 c.q
  b : Rg u P.r1 P.g1 1024 c.w
  nd : P.bs.Nodup
theorem Pe.ke {u u' : World} {P : Pl} {c : Cn} {L : List Nat} (h : Pe u P c) (k : Ke L u u') (hL : ∀ x ∈ P.bs, x ∉ L) : Pe u' P c :=
  ⟨h.bk.ke k (hL _ (by simp [Pl.bs])), h.a.ke k (hL _ (by simp [Pl.bs])) (hL _ (by simp [Pl.bs])), h.b.ke k (hL _ (by simp [Pl.bs])) (hL _ (by simp [Pl.bs])), h.nd⟩
theorem Pe.lt {u : World} {P : Pl} {c : Cn} (h : Pe u P c) : ∀ x ∈ P.bs, x < u.heap.size := by
  intro x hx
  simp only [Pl.bs, List.mem_cons, List.not_mem_nil, or_false] at hx
  rcases hx with rfl | rfl | rfl | rfl | rfl
  · exact h.bk.lt
  · exact h.a.lt.1
  · exact h.a.lt.2
  · exact h.b.lt.1
  · exact h.b.lt.2
/-- No two of a place's blocks are one. -/
structure Dp (P : Pl) : Prop where
  a : P.p ≠ P.r0
  b : P.p ≠ P.g0
  c : P.p ≠ P.r1
  d : P.p ≠ P.g1
  e : P.r0 ≠ P.g0
  f : P.r0 ≠ P.r1
  g : P.r0 ≠ P.g1
  h : P.g0 ≠ P.r1
  i : P.g0 ≠ P.g1
  j : P.r1 ≠ P.g1
theorem dp_of {P : Pl} (h : P.bs.Nodup) : Dp P := by
  simp only [Pl.bs, List.nodup_cons, List.mem_cons, List.not_mem_nil, or_false, not_or, not_false_eq_true, List.nodup_nil, and_true] at h
  obtain ⟨⟨h1, h2, h3, h4⟩, ⟨h5, h6, h7⟩, ⟨h8, h9⟩, h10⟩ := h
  exact ⟨h1, h2, h3, h4, h5, h6, h7, h8, h9, h10⟩
theorem Dp.nd {P : Pl} (h : Dp P) : P.bs.Nodup := by
  simp only [Pl.bs, List.nodup_cons, List.mem_cons, List.not_mem_nil, or_false, not_or, not_false_eq_true, List.nodup_nil, and_true]
  exact ⟨⟨h.a, h.b, h.c, h.d⟩, ⟨h.e, h.f, h.g⟩, ⟨h.h, h.i⟩, h.j⟩
/-- The map's entries. -/
def enC_ (pl : Int → Pl) (l : List (Int × Cn)) : List (Int × Option Nat) := l.map fun x => (x.1, some (pl x.1).p)
/-- At tb lies the table, its map at mb, each connection at its place, in the blocks H. -/
structure Tz (u : World) (H : List Nat) (tb mb : Nat) (pl : Int → Pl) (t : Tc) : Prop where
  tk : Bk u tb 51 #[.map (some mb), .int .i64 (t.la : Int)]
  mp : MnC u mb (enC_ pl t.l)
  at_ : ∀ x ∈ t.l, Pe u (pl x.1) x.2
  ap : ∀ x ∈ t.l, ∀ y ∈ t.l, x.1 ≠ y.1 → ∀ b ∈ (pl x.1).bs, b ∉ (pl y.1).bs
  off : ∀ x ∈ t.l, ∀ b ∈ (pl x.1).bs, b ≠ tb ∧ b ≠ mb ∧ b ∈ H
  ne : tb ≠ mb
  tH : tb ∈ H
  mH : mb ∈ H
/-- At tb lies the program's table, in the blocks H. -/
structure Zc (W u : World) (H : List Nat) (tb : Nat) (t : Tc) : Prop where
  ex : ∃ mb pl, Tz u H tb mb pl t
  l : Below W.heap.size W u
  lo : ∀ y ∈ H, W.heap.size ≤ y
  hi : ∀ y ∈ H, y < u.heap.size
section
variable {W u u' : World} {H H' : List Nat} {tb mb : Nat} {pl : Int → Pl} {t : Tc}
theorem Tz.ke {L : List Nat} (h : Tz u H tb mb pl t) (k : Ke L u u') (hL : ∀ y ∈ H, y ∉ L) : Tz u' H tb mb pl t :=
  ⟨h.tk.ke k (hL _ h.tH), h.mp.ke k (hL _ h.mH), fun x hx => (h.at_ x hx).ke k (fun b hb => hL _ (h.off x hx b hb).2.2), h.ap, h.off, h.ne, h.tH, h.mH⟩
theorem Zc.ke {L : List Nat} (h : Zc W u H tb t) (k : Ke L u u') (hL : ∀ y ∈ H, y ∉ L) (hb : Below W.heap.size W u') : Zc W u' H tb t := by
  obtain ⟨mb, pl, hz⟩ := h.ex
  exact ⟨⟨mb, pl, hz.ke k hL⟩, hb, h.lo, fun y hy => Nat.lt_of_lt_of_le (h.hi y hy) k.size⟩
theorem Zc.on (h : Zc W u H tb t) (hb : Below u.heap.size u u') : Zc W u' H tb t := h.ke (Ke.of hb) (fun _ _ hx => by cases hx) (h.l.trans (hb.mono h.l.size))
theorem Zc.turn {mb : Nat} {pl : Int → Pl} {t' : Tc} (h : Zc W u H tb t) (s : Sp u u' H H') (hz : ∀ y ∈ H', y < u'.heap.size) (z : Tz u' H' tb mb pl t') : Zc W u' H' tb t' :=
  ⟨⟨mb, pl, z⟩, h.l.trans (s.k.below h.l.size h.lo), fun y hy => by
    rcases s.g y hy with e | e
    · exact h.lo y e
    · exact Nat.le_trans h.l.size e, hz⟩
theorem enC_up (pl : Int → Pl) (l : List (Int × Cn)) (i : Int) (c : Cn) : enC_ pl (upC l i c) = enC_ pl l := by
  induction l with
  | nil => rfl
  | cons p l ih =>
    rw [up_cons]
    show (_, _) :: enC_ pl (upC l i c) = (_, _) :: enC_ pl l
    rw [ih]
    by_cases hp : p.1 = i
    · rw [if_pos hp, hp]
    · rw [if_neg hp]
theorem Tz.hit (h : Tz u H tb mb pl t) {i : Int} {c : Cn} (e : t.f i = some c) : (i, c) ∈ t.l ∧ (i, some (pl i).p) ∈ enC_ pl t.l := ⟨fn_some e, List.mem_map.2 ⟨_, fn_some e, rfl⟩⟩
theorem Tz.miss (h : Tz u H tb mb pl t) {i : Int} (e : t.f i = none) : ∀ x ∈ enC_ pl t.l, x.1 ≠ i := by
  intro x hx
  obtain ⟨y, hy, rfl⟩ := List.mem_map.1 hx
  exact fn_none.1 e y hy
/-- One connection has turned, and nothing else. -/
theorem Tz.one (h : Tz u H tb mb pl t) {i : Int} {c c' : Cn} (e : t.f i = some c) {L : List Nat} (k : Ke L u u') (hL : ∀ x ∈ L, x ∈ (pl i).bs) (hp : Pe u' (pl i) c') : Tz u' H tb mb pl (t.up i c') := by
  have hi := (h.hit e).1
  have ho := h.off _ hi
  refine ⟨h.tk.ke k (fun hx => (ho _ (hL _ hx)).1 rfl), ?_, ?_, ?_, ?_, h.ne, h.tH, h.mH⟩
  · show MnC u' mb (enC_ pl (upC t.l i c'))
    rw [enC_up]
    exact h.mp.ke k (fun hx => (ho _ (hL _ hx)).2.1 rfl)
  · intro x hx
    rcases mem_up hx with rfl | hx2
    · exact hp
    · by_cases hxi : x.1 = i
      · have : x = (i, c') := by
          obtain ⟨q, hq, eq⟩ := List.mem_map.1 hx
          by_cases hp2 : q.1 = i
          · rw [if_pos hp2] at eq; exact eq.symm
          · rw [if_neg hp2] at eq; rw [← eq] at hxi; exact absurd hxi hp2
        rw [this]; exact hp
      · exact (h.at_ x hx2).ke k (fun b hb hbL => h.ap x hx2 (i, c) hi hxi b hb (hL b hbL))
  · intro x hx y hy hne
    have key : ∀ z ∈ upC t.l i c', ∃ d, (z.1, d) ∈ t.l := fun z hz => by
      rcases mem_up hz with rfl | hz2
      · exact ⟨c, hi⟩
      · exact ⟨z.2, hz2⟩
    obtain ⟨d, hd⟩ := key x hx
    obtain ⟨d', hd'⟩ := key y hy
    exact h.ap (x.1, d) hd (y.1, d') hd' hne
  · intro x hx
    rcases mem_up hx with rfl | hx2
    · exact h.off (i, c) hi
    · exact h.off x hx2
theorem Tz.bsH (h : Tz u H tb mb pl t) {i : Int} {c : Cn} (e : t.f i = some c) : ∀ x ∈ (pl i).bs, x ∈ H := fun x hx => (h.off _ (h.hit e).1 x hx).2.2
/-- The same for the table at large. -/
theorem Zc.one (hz : Zc W u H tb t) (h : Tz u H tb mb pl t) {i : Int} {c c' : Cn} (e : t.f i = some c) {L : List Nat} (k : Ke L u u') (hL : ∀ x ∈ L, x ∈ (pl i).bs) (hp : Pe u' (pl i) c') : Zc W u' H tb (t.up i c') ∧ Sp u u' H H := by
  have kH : Ke H u u' := k.more (fun x hx => h.bsH e x (hL x hx))
  exact ⟨hz.turn (Sp.of kH) (fun y hy => Nat.lt_of_lt_of_le (hz.hi y hy) kH.size) (h.one e k hL hp), Sp.of kH⟩
theorem up_self {i : Int} {c : Cn} (e : t.f i = some c) (hg : Gc t) : t.up i c = t := by
  have key : ∀ l : List (Int × Cn), fnC l i = some c → (l.map (·.1)).Pairwise (· < ·) → upC l i c = l := by
    intro l
    induction l with
    | nil => intro _ _; rfl
    | cons p l ih =>
      intro h1 h2
      rw [up_cons]
      rw [fn_cons] at h1
      rw [List.map_cons, List.pairwise_cons] at h2
      by_cases hp : p.1 = i
      · rw [if_pos hp] at h1 ⊢
        injection h1 with h1
        rw [up_none (fn_none.2 (fun q hq he => by have := h2.1 q.1 (List.mem_map.2 ⟨q, hq, rfl⟩); omega))]
        rw [← hp, ← h1]
      · rw [if_neg hp] at h1 ⊢
        rw [ih h1 h2.2]
  show (⟨upC t.l i c, t.la⟩ : Tc) = t
  rw [key t.l e hg.up]
/-- A number that is one: of a connection, or of its kind. -/
theorem Tz.wf (h : Tz u H tb mb pl t) {i : Int} {c : Cn} (e : t.f i = some c) : WfN i := h.mp.wf _ (h.hit e).2
end
end Go.Proofs.YtndamiocmdnenaaGreat
