/- Connections: what the document asks, as Lean functions. (Nothing of the program's table is named here.) -/
import Derived.Test.YtndamiocmdnenaaFrameM
import Derived.Test.YtndamiocmdnenaaRing3
namespace Go.Proofs.Ytndamiocmdnenaa
set_option linter.unusedVariables false
set_option maxRecDepth 100000
set_option linter.unusedSimpArgs false

/-- A connection: its address; what came; what waits; its credit; whether it has ended. -/
structure Cn where
  ad : Int
  q : List UInt8
  w : List UInt8
  cr : Nat
  en : Bool
abbrev cn0 (a : Int) : Cn := ⟨a, [], [], 0, false⟩
/-- All connections, by rising numbers; how many there were. -/
structure Tc where
  l : List (Int × Cn)
  la : Nat
abbrev tc0 : Tc := ⟨[], 0⟩
/-- The connection of a number in a list. -/
def fnC : List (Int × Cn) → Int → Option Cn
  | [], _ => none
  | p :: r, i => if p.1 = i then some p.2 else fnC r i
/-- It is another one. -/
def upC (l : List (Int × Cn)) (i : Int) (c : Cn) : List (Int × Cn) := l.map (fun p => if p.1 = i then (i, c) else p)
/-- Without it. -/
def rmC (l : List (Int × Cn)) (i : Int) : List (Int × Cn) := l.filter (fun p => decide (p.1 ≠ i))
def Tc.f (t : Tc) (i : Int) : Option Cn := fnC t.l i
def Tc.up (t : Tc) (i : Int) (c : Cn) : Tc := { t with l := upC t.l i c }
def opC (t : Tc) (a : Int) : (Int × Int) × Tc := if 64 ≤ t.l.length then ((0, 2), t) else ((((t.la + 1 : Nat) : Int), 0), ⟨t.l ++ [(((t.la + 1 : Nat) : Int), cn0 a)], t.la + 1⟩)
def hsC (t : Tc) (i : Int) : Bool := (t.f i).isSome
def clC (t : Tc) (i : Int) : Bool × Tc := if hsC t i = true then (true, { t with l := rmC t.l i }) else (false, t)
def adC (t : Tc) (i : Int) : Int := match t.f i with | none => 0 | some c => c.ad
def alC (t : Tc) : List Int := t.l.map (·.1)
def feC (t : Tc) (i : Int) (B : List UInt8) : Nat × Tc := match t.f i with | none => (0, t) | some c => if c.en = true then (0, t) else (min B.length (512 - c.q.length), t.up i { c with q := c.q ++ B.take (512 - c.q.length) })
def neC (t : Tc) (i : Int) : (List UInt8 × Bool × Int) × Tc := match t.f i with | none => (([], false, 0), t) | some c => if begB c.q = false then (([], false, 61), t) else if lenF c.q = 0 then (([], false, 0), t) else ((partF c.q, true, 0), t.up i { c with q := c.q.drop (lenF c.q) })
def reC (t : Tc) (i : Int) (n : Int) : List UInt8 × Tc := match t.f i with | none => ([], t) | some c => (c.q.take (takeM n c.q.length), t.up i { c with q := c.q.drop (takeM n c.q.length) })
def caC (t : Tc) (i : Int) : Nat := match t.f i with | none => 0 | some c => c.q.length
def saC (t : Tc) (i : Int) (B : List UInt8) : Bool × Tc := match t.f i with | none => (false, t) | some c => if 1024 - c.w.length < B.length then (false, t) else (true, t.up i { c with w := c.w ++ B })
def buC (t : Tc) (i : Int) (n : Int) : Bool × Tc := match t.f i with | none => (false, t) | some c => if n < 0 ∨ 1073741824 < n then (false, t) else (true, t.up i { c with cr := min (c.cr + n.toNat) 1073741824 })
def flC (t : Tc) (i : Int) : List UInt8 × Tc := match t.f i with | none => ([], t) | some c => (c.w.take c.cr, t.up i { c with w := c.w.drop c.cr, cr := c.cr - c.w.length })
def waC (t : Tc) (i : Int) : Nat := match t.f i with | none => 0 | some c => c.w.length
def roC (t : Tc) (i : Int) : Nat := match t.f i with | none => 0 | some c => 1024 - c.w.length
def crC (t : Tc) (i : Int) : Nat := match t.f i with | none => 0 | some c => c.cr
def haC (t : Tc) (i : Int) : Bool × Tc := match t.f i with | none => (false, t) | some c => if c.en = true then (false, t) else (true, t.up i { c with en := true })
def enC (t : Tc) (i : Int) : Bool := match t.f i with | none => false | some c => c.en

theorem fn_cons (p : Int × Cn) (r : List (Int × Cn)) (i : Int) : fnC (p :: r) i = if p.1 = i then some p.2 else fnC r i := rfl
theorem fn_app (l r : List (Int × Cn)) (i : Int) : fnC (l ++ r) i = (fnC l i).or (fnC r i) := by
  induction l with
  | nil => simp [fnC]
  | cons p l ih =>
    rw [List.cons_append, fn_cons, fn_cons, ih]
    split <;> simp
theorem fn_none {l : List (Int × Cn)} {i : Int} : fnC l i = none ↔ ∀ p ∈ l, p.1 ≠ i := by
  induction l with
  | nil => simp [fnC]
  | cons p l ih =>
    rw [fn_cons]
    by_cases h : p.1 = i
    · rw [if_pos h]; simp [h]
    · rw [if_neg h, ih]; simp [h]
theorem fn_some {l : List (Int × Cn)} {i : Int} {c : Cn} (h : fnC l i = some c) : (i, c) ∈ l := by
  induction l with
  | nil => cases h
  | cons p l ih =>
    rw [fn_cons] at h
    by_cases hp : p.1 = i
    · rw [if_pos hp] at h
      injection h with h
      subst h; subst hp
      exact List.mem_cons_self
    · rw [if_neg hp] at h
      exact List.mem_cons_of_mem _ (ih h)
theorem fn_key {l : List (Int × Cn)} {i : Int} : (fnC l i).isSome = true ↔ i ∈ l.map (·.1) := by
  cases h : fnC l i with
  | none =>
    simp only [Option.isSome_none, Bool.false_eq_true, false_iff, List.mem_map, not_exists, not_and]
    exact fun p hp => fn_none.1 h p hp
  | some c => simp only [Option.isSome_some, true_iff]; exact List.mem_map.2 ⟨_, fn_some h, rfl⟩
theorem up_cons (p : Int × Cn) (r : List (Int × Cn)) (i : Int) (c : Cn) : upC (p :: r) i c = (if p.1 = i then (i, c) else p) :: upC r i c := rfl
theorem up_keys (l : List (Int × Cn)) (i : Int) (c : Cn) : (upC l i c).map (·.1) = l.map (·.1) := by
  induction l with
  | nil => rfl
  | cons p l ih =>
    rw [up_cons, List.map_cons, List.map_cons, ih]
    by_cases hp : p.1 = i
    · rw [if_pos hp, hp]
    · rw [if_neg hp]
theorem up_len (l : List (Int × Cn)) (i : Int) (c : Cn) : (upC l i c).length = l.length := List.length_map _
theorem fn_up_same {l : List (Int × Cn)} {i : Int} {c d : Cn} (h : fnC l i = some d) : fnC (upC l i c) i = some c := by
  induction l with
  | nil => cases h
  | cons p l ih =>
    rw [up_cons, fn_cons]
    by_cases hp : p.1 = i
    · rw [if_pos hp, if_pos rfl]
    · rw [if_neg hp, if_neg hp]
      rw [fn_cons, if_neg hp] at h
      exact ih h
theorem fn_up_far {l : List (Int × Cn)} {i j : Int} {c : Cn} (h : j ≠ i) : fnC (upC l i c) j = fnC l j := by
  induction l with
  | nil => rfl
  | cons p l ih =>
    rw [up_cons, fn_cons, fn_cons, ih]
    by_cases hp : p.1 = i
    · rw [if_pos hp, if_neg (fun e => h e.symm), if_neg (fun e => h (e.symm.trans hp))]
    · rw [if_neg hp]
theorem up_none {l : List (Int × Cn)} {i : Int} {c : Cn} (h0 : fnC l i = none) : upC l i c = l := by
  have h := fn_none.1 h0
  clear h0
  induction l with
  | nil => rfl
  | cons p l ih =>
    rw [up_cons, if_neg (h p List.mem_cons_self), ih (fun q hq => h q (List.mem_cons_of_mem _ hq))]
theorem mem_up {l : List (Int × Cn)} {i : Int} {c : Cn} {p : Int × Cn} (h : p ∈ upC l i c) : p = (i, c) ∨ p ∈ l := by
  obtain ⟨q, hq, e⟩ := List.mem_map.1 h
  by_cases hp : q.1 = i
  · rw [if_pos hp] at e; exact .inl e.symm
  · rw [if_neg hp] at e; exact .inr (e ▸ hq)
theorem rm_none {l : List (Int × Cn)} {i : Int} (h : fnC l i = none) : rmC l i = l := by
  have h := fn_none.1 h
  exact List.filter_eq_self.2 (fun p hp => by simpa using h p hp)
theorem fn_rm_same (l : List (Int × Cn)) (i : Int) : fnC (rmC l i) i = none := fn_none.2 (fun p hp => by
  have := (List.mem_filter.1 hp).2
  simpa using this)
theorem fn_rm_far {l : List (Int × Cn)} {i j : Int} (h : j ≠ i) : fnC (rmC l i) j = fnC l j := by
  induction l with
  | nil => rfl
  | cons p l ih =>
    by_cases hp : p.1 = i
    · have e : rmC (p :: l) i = rmC l i := by unfold rmC; rw [List.filter_cons]; simp [hp]
      rw [e, ih, fn_cons, if_neg (fun e => h (e.symm.trans hp))]
    · have e : rmC (p :: l) i = p :: rmC l i := by unfold rmC; rw [List.filter_cons]; simp [hp]
      rw [e, fn_cons, fn_cons, ih]
theorem rm_keys (l : List (Int × Cn)) (i : Int) : (rmC l i).map (·.1) = (l.map (·.1)).filter (fun k => decide (k ≠ i)) := by
  unfold rmC
  rw [List.filter_map]
  rfl
/-- A table that is right. -/
structure Gc (t : Tc) : Prop where
  up : (t.l.map (·.1)).Pairwise (· < ·)
  pos : ∀ k ∈ t.l.map (·.1), 1 ≤ k ∧ k ≤ (t.la : Int)
  few : t.l.length ≤ 64
  fit : ∀ p ∈ t.l, p.2.q.length ≤ 512 ∧ p.2.w.length ≤ 1024 ∧ p.2.cr ≤ 1073741824
theorem Gc.at_ {t : Tc} (h : Gc t) {i : Int} {c : Cn} (e : t.f i = some c) : c.q.length ≤ 512 ∧ c.w.length ≤ 1024 ∧ c.cr ≤ 1073741824 := h.fit _ (fn_some e)
theorem Gc.id_ {t : Tc} (h : Gc t) {i : Int} {c : Cn} (e : t.f i = some c) : 1 ≤ i ∧ i ≤ (t.la : Int) := h.pos i (fn_key.1 (by show (t.f i).isSome = true; rw [e]; rfl))
theorem gc_new : Gc tc0 := ⟨by simp, by simp, by simp, by simp⟩
theorem Gc.up_ {t : Tc} (h : Gc t) (i : Int) {c : Cn} (hc : c.q.length ≤ 512 ∧ c.w.length ≤ 1024 ∧ c.cr ≤ 1073741824) : Gc (t.up i c) := by
  refine ⟨?_, ?_, ?_, fun p hp => ?_⟩
  · show ((upC t.l i c).map (·.1)).Pairwise (· < ·); rw [up_keys]; exact h.up
  · show ∀ k ∈ (upC t.l i c).map (·.1), 1 ≤ k ∧ k ≤ (t.la : Int); rw [up_keys]; exact h.pos
  · show (upC t.l i c).length ≤ 64; rw [up_len]; exact h.few
  · rcases mem_up hp with e | e
    · rw [e]; exact hc
    · exact h.fit p e
theorem gc_open {t : Tc} (h : Gc t) (a : Int) : Gc (opC t a).2 := by
  unfold opC
  by_cases hl : 64 ≤ t.l.length
  · rw [if_pos hl]; exact h
  · rw [if_neg hl]
    have hk := h.pos
    refine ⟨?_, ?_, ?_, ?_⟩
    · show ((t.l ++ [((((t.la + 1 : Nat) : Int)), cn0 a)]).map (·.1)).Pairwise (· < ·)
      rw [List.map_append, List.pairwise_append]
      refine ⟨h.up, by simp, fun x hx y hy => ?_⟩
      simp only [List.map_cons, List.map_nil, List.mem_singleton] at hy
      have := (hk x hx).2
      omega
    · intro k hk2
      rw [List.map_append, List.mem_append] at hk2
      show 1 ≤ k ∧ k ≤ ((t.la + 1 : Nat) : Int)
      rcases hk2 with e | e
      · have := hk k e; omega
      · simp only [List.map_cons, List.map_nil, List.mem_singleton] at e
        omega
    · show (t.l ++ [_]).length ≤ 64
      rw [List.length_append]
      simp only [List.length_cons, List.length_nil]
      omega
    · intro p hp
      rcases List.mem_append.1 hp with e | e
      · exact h.fit p e
      · rw [List.mem_singleton.1 e]; simp
theorem gc_close {t : Tc} (h : Gc t) (i : Int) : Gc (clC t i).2 := by
  unfold clC
  split
  · refine ⟨?_, ?_, ?_, ?_⟩
    · show ((rmC t.l i).map (·.1)).Pairwise (· < ·); rw [rm_keys]; exact h.up.filter _
    · intro k hk; rw [rm_keys] at hk; exact h.pos k (List.mem_filter.1 hk).1
    · exact Nat.le_trans (List.length_filter_le _ _) h.few
    · intro p hp; exact h.fit p (List.mem_filter.1 hp).1
  · exact h
theorem gc_feed {t : Tc} (h : Gc t) (i : Int) (B : List UInt8) : Gc (feC t i B).2 := by
  unfold feC
  split
  · exact h
  · rename_i c e
    split
    · exact h
    · have := h.at_ e
      exact h.up_ i ⟨by show (c.q ++ B.take _).length ≤ 512; rw [List.length_append, List.length_take]; omega, this.2⟩
theorem gc_next {t : Tc} (h : Gc t) (i : Int) : Gc (neC t i).2 := by
  unfold neC
  split
  · exact h
  · rename_i c e
    split
    · exact h
    · split
      · exact h
      · have := h.at_ e
        exact h.up_ i ⟨by show (c.q.drop _).length ≤ 512; rw [List.length_drop]; omega, this.2⟩
theorem gc_rest {t : Tc} (h : Gc t) (i n : Int) : Gc (reC t i n).2 := by
  unfold reC
  split
  · exact h
  · rename_i c e
    have := h.at_ e
    exact h.up_ i ⟨by show (c.q.drop _).length ≤ 512; rw [List.length_drop]; omega, this.2⟩
theorem gc_say {t : Tc} (h : Gc t) (i : Int) (B : List UInt8) : Gc (saC t i B).2 := by
  unfold saC
  split
  · exact h
  · rename_i c e
    split
    · exact h
    · have := h.at_ e
      exact h.up_ i ⟨this.1, by show (c.w ++ B).length ≤ 1024; rw [List.length_append]; omega, this.2.2⟩
theorem gc_bud {t : Tc} (h : Gc t) (i n : Int) : Gc (buC t i n).2 := by
  unfold buC
  split
  · exact h
  · rename_i c e
    split
    · exact h
    · have := h.at_ e
      exact h.up_ i ⟨this.1, this.2.1, by show min _ _ ≤ _; omega⟩
theorem gc_flush {t : Tc} (h : Gc t) (i : Int) : Gc (flC t i).2 := by
  unfold flC
  split
  · exact h
  · rename_i c e
    have := h.at_ e
    exact h.up_ i ⟨this.1, by show (c.w.drop _).length ≤ _; rw [List.length_drop]; omega, by show c.cr - _ ≤ _; omega⟩
theorem gc_half {t : Tc} (h : Gc t) (i : Int) : Gc (haC t i).2 := by
  unfold haC
  split
  · exact h
  · rename_i c e
    split
    · exact h
    · have := h.at_ e
      exact h.up_ i ⟨this.1, this.2⟩
end Go.Proofs.Ytndamiocmdnenaa
