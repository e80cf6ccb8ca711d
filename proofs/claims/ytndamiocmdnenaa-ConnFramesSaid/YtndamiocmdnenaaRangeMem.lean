/- A range over a function whose values are slices that the iterator has just made: the body is told, in each round, what its values read as in memory. Nothing of the program is named here. -/
import Derived.RangeFuncNested
import Derived.RangeFuncBound
namespace Go.Proofs.Ytndamiocmdnenaa
set_option linter.unusedVariables false
set_option maxRecDepth 100000
set_option linter.unusedSimpArgs false
open Go.RowKit

/-- An iterator's contract, where each round is told that R holds of what it is handed. -/
def SeqReads {α : Type} (F : Fence) (n : Nat) (P : Program) (g : Nat) (lb : Array Value) (encs : α → Array Value) (R : α → World → Prop) (Kp : World → World → Prop) (S Sp : List α → Prop) (N : Nat) (w : World) : Prop :=
  ∀ (l : Nat) (J Jx : List α → World → Prop) (W : World), Below w.heap.size w W → AbidesFrom W.heap.size J → AbidesFrom W.heap.size Jx →
    (∀ pre x u, J pre u → R x u → pre.length < N → YieldAt F (n - 1) P l (encs x) u fun e u' =>
      (e = .returned (.bool true) ∧ J (pre ++ [x]) u' ∧ Kp u u') ∨ (e = .returned (.bool false) ∧ Jx (pre ++ [x]) u')) →
    J [] W →
    CallsIn F n P g (#[.func (.yield l) #[] #[]] ++ lb) W fun e W' => (∃ v, e = .returned v) ∧ ((∃ xs, S xs ∧ J xs W') ∨ (∃ pre, Sp pre ∧ Jx pre W'))

/-- The two blocks that such a loop lays for itself, from block b on. -/
structure Books (b : Nat) (r : Loop) (W : World) : Prop where
  defs : W.heap[b]? = some (.deferred (some []))
  rec_ : W.heap[b + 1]? = some (.loop r)
theorem Books.lt {b : Nat} {r : Loop} {W : World} (h : Books b r W) : b + 1 < W.heap.size := (Array.getElem?_eq_some_iff.1 h.rec_).1
theorem Books.walks {b : Nat} {r : Loop} {W W' : World} {row : Option Nat} (h : Books b r W) (hg : W.grownBy W' row) (hr : ∀ k, row = some k → ∃ o : Obj, W.heap[k]? = some o ∧ o.isWalk = true) : Books b r W' :=
  ⟨(grownBy_keeps hg hr h.defs rfl).trans h.defs, (grownBy_keeps hg hr h.rec_ rfl).trans h.rec_⟩
theorem Books.others {b : Nat} {r : Loop} {W W' : World} (h : Books b r W) (hk : KeepsOthers W W') : Books b r W' := ⟨hk.same _ _ h.defs rfl, hk.same _ _ h.rec_ rfl⟩
theorem Books.put {b : Nat} {r : Loop} {W : World} (h : Books b r W) (r' : Loop) : Books b r' (W.putObj (b + 1) (.loop r')) :=
  ⟨(World.putObj_heap_other (by omega)).trans h.defs, World.putObj_heap_same h.lt⟩
theorem Books.own {β : Type} {B b : Nat} {r r' : Loop} {I : β → World → Prop} {s : β} {W : World} (hI : OwnFrom B I) (h : Books b r W) (hB : B ≤ b + 1) (hs : I s W) : I s (W.putObj (b + 1) (.loop r')) :=
  hI.putObj _ hs hB h.rec_ rfl
theorem Books.new (w : World) (r : Loop) : Books w.heap.size r ((w.alloc (.deferred (some []))).alloc (.loop r)) := by
  refine ⟨(Below.heap_alloc _ _ _ (by rw [World.size_alloc]; omega)).trans (World.alloc_heap_new w _), ?_⟩
  have := World.alloc_heap_new (w.alloc (.deferred (some []))) (.loop r)
  rwa [World.size_alloc] at this

variable {F : Fence} {n : Nat} {P : Program}

/-- 'for .. := range it { .. }' at such an iterator, outside every other loop of this kind. The body goes on, or returns. -/
theorem rangeFunc_reads {α : Type} {g : Operand} {ps : Array Tmp} {assign body : Code} {Q : Exit → Act → World → Prop} {a : Act} {w : World}
    (hro : F.round = none) (h1 : 1 ≤ n) {gf : Nat} {lb : Array Value} (hg : a.eval g = .func (.func gf) #[] lb) (hFg : F.fn gf) (eg : ∀ args w, (callFunc gf args).run P w = .ok (.enter gf args) w)
    {encs : α → Array Value} {R : α → World → Prop} {Kp : World → World → Prop} {S Sp : List α → Prop} {N : Nat} {w0 : World} (hseq : SeqReads F (n - 1) P gf lb encs R Kp S Sp N w0)
    (hKt : ∀ {A B C : World}, Kp A B → Kp B C → Kp A C) (hKb : ∀ (W : World) (l : Nat) (o o' : Obj), w.heap.size ≤ l → W.heap[l]? = some o → o.isCells = false → o.isWalk = false → Kp W (W.putObj l o'))
    (hb0 : Below w0.heap.size w0 w) (hps : ∀ x, (encs x).size = ps.size)
    (I Ix : List α → World → Prop) (hI : OwnFrom w.heap.size I) (hIx : OwnFrom w.heap.size Ix) (hR : OwnFrom w.heap.size R) (h0 : I [] w) (a₁ : α → Act)
    (hassign : ∀ (l : Nat) (x : α) (W : World) (K : Act → World → Prop), K (a₁ x) W →
      assign.wpIn (F.inRound l) (n - 1 - 1) P (Exit.then K (fun _ _ _ => False)) { tmps := (ps.zip (encs x)).foldl (fun t (p, v) => t.setIfInBounds p v) a.tmps, defers := [] } W)
    (hbody : ∀ (l : Nat) (pre : List α) (x : α) (W : World), I pre W → R x W → pre.length < N →
      body.wpIn (F.inRound l) (n - 1 - 1) P (fun e _ W' => KeepsOthers W W' ∧ ((e = .normal ∧ Kp W W' ∧ I (pre ++ [x]) W') ∨ (e = .ret ∧ Ix (pre ++ [x]) W'))) (a₁ x) W)
    (hdone : ∀ (D : Nat) (xs : List α) (W : World), w.heap.size ≤ D → S xs → I xs W → W.heap[D]? = some (.deferred (some [])) → Q .normal { a with defers := { target := .collected D, args := #[] } :: a.defers } W)
    (hstop : ∀ (D : Nat) (pre : List α) (W : World), w.heap.size ≤ D → Sp pre → Ix pre W → W.heap[D]? = some (.deferred (some [])) → Code.ret.wpIn F n P Q { a with defers := { target := .collected D, args := #[] } :: a.defers } W) :
    (Code.rangeFunc g ps assign body).wpIn F n P Q a w := by
  refine wpIn_rangeFunc fun fn hfn => ?_
  rw [hro]
  -- the loop's record, at each state and pending way out
  obtain ⟨rc, hrc⟩ : ∃ rc : LoopState → Option Code → Loop, ∀ s p, rc s p = { state := s, pending := p, fn := fn, tmps := a.tmps, params := ps, assign := assign, body := body, defers := w.heap.size } := ⟨_, fun _ _ => rfl⟩
  obtain ⟨U, hU⟩ : ∃ U, (w.alloc (.deferred (some []))).alloc (.loop (rc .ready none)) = U := ⟨_, rfl⟩
  have bU : Books w.heap.size (rc .ready none) U := by rw [← hU]; exact Books.new w _
  have iU : I [] U := by rw [← hU]; exact hI.alloc _ (hI.alloc _ h0)
  have sU : U.heap.size = w.heap.size + 2 := by rw [← hU, World.size_alloc, World.size_alloc]
  have lU : Below w0.heap.size w0 U := by rw [← hU]; exact (hb0.alloc hb0.size _).alloc (by rw [World.size_alloc]; have := hb0.size; omega) _
  refine ⟨w.heap.size + 1, _, U, { target := .fn (.func gf) lb, args := #[.func (.yield (w.heap.size + 1)) #[] #[]] }, U, gf, #[.func (.yield (w.heap.size + 1)) #[] #[]] ++ lb, U,
    by rw [← hU, hrc]; exact run_enterLoop_outer _ _ _ _ _, by simp only [resolve, hg]; simp [go_sem], ?_, by simp [invoke, go_sem, eg], fun _ => h1, ?_⟩
  · intro k hk
    simp [Target.leads] at hk
    subst hk; exact hFg
  have beyond : ∀ {V : World} {row : Option Nat}, (∀ r, row = some r → U.heap.size ≤ r ∧ ∃ o : Obj, V.heap[r]? = some o ∧ o.isWalk = true) → ∀ r, row = some r → w.heap.size ≤ r ∧ ∃ o : Obj, V.heap[r]? = some o ∧ o.isCells = false :=
    fun h r e => by obtain ⟨h1, o, h2, h3⟩ := h r e; exact ⟨by omega, o, h2, Obj.not_cells_of_walk h3⟩
  refine (hseq (w.heap.size + 1) (fun pre W => I pre W ∧ Books w.heap.size (rc .ready none) W) (fun pre W => Ix pre W ∧ Books w.heap.size (rc .done (some .ret)) W) U lU
    (fun s V V' row hs hgr hr => ⟨hI s V V' row hs.1 hgr (beyond hr), hs.2.walks hgr (fun k e => (hr k e).2)⟩)
    (fun s V V' row hs hgr hr => ⟨hIx s V V' row hs.1 hgr (beyond hr), hs.2.walks hgr (fun k e => (hr k e).2)⟩) ?_ ⟨iU, bU⟩).mono ?_
  · rintro pre x V ⟨hi, hbk⟩ hRx hlen
    have hy := run_yield (P := P) (args := encs x) hbk.rec_ (by rw [hrc]; exact hps x)
    rw [hrc] at hy
    refine ⟨fn, _, assign, body, hy, roundIn_of_wpIn hfn (hassign _ x V _ ⟨_, run_beginRound hbk.rec_ (by rw [hrc]), ?_⟩)⟩
    have hbusy : ({ rc .ready none with state := .busy } : Loop) = rc .busy none := by rw [hrc, hrc]
    rw [hbusy]
    have hb1 : Books w.heap.size (rc .busy none) (V.putObj (w.heap.size + 1) (.loop (rc .busy none))) := hbk.put _
    refine wpIn_mono (hbody _ pre x _ (hbk.own hI (by omega) hi) (hbk.own hR (by omega) hRx) hlen) ?_
    rintro e a3 V3 ⟨hko, hway⟩
    have hb3 := hb1.others hko
    have hend := fun jump => run_endRound (P := P) jump hb3.rec_
    rcases hway with ⟨rfl, hkp, hi3⟩ | ⟨rfl, hi3⟩
    · have h2 := hend none
      have e2 : ({ rc .busy none with state := if (none : Option Code).isNone then .ready else .done, pending := none } : Loop) = rc .ready none := by rw [hrc, hrc]; rfl
      rw [e2] at h2
      exact ⟨_, _, h2, .inl ⟨rfl, ⟨hb3.own hI (by omega) hi3, hb3.put _⟩, hKt (hKt (hKb _ _ _ _ (by omega) hbk.rec_ rfl rfl) hkp) (hKb _ _ _ _ (by omega) hb3.rec_ rfl rfl)⟩⟩
    · have h2 := hend (some .ret)
      have e2 : ({ rc .busy none with state := if (some Code.ret).isNone then .ready else .done, pending := some Code.ret } : Loop) = rc .done (some .ret) := by rw [hrc, hrc]; rfl
      rw [e2] at h2
      exact ⟨_, _, h2, .inr ⟨rfl, hb3.own hIx (by omega) hi3, hb3.put _⟩⟩
  · rintro e V ⟨⟨v, rfl⟩, (⟨xs, hS, hi, hbk⟩ | ⟨pre, hSp, hi, hbk⟩)⟩
    · have h2 := run_endLoop (P := P) hbk.rec_ (by rw [hrc]; simp)
      have e2 : (rc .ready none).pending = none := by rw [hrc]
      rw [e2] at h2
      exact ⟨none, _, h2, hdone _ xs _ (Nat.le_refl _) hS (hbk.own hI (by omega) hi) (hbk.put _).defs⟩
    · have h2 := run_endLoop (P := P) hbk.rec_ (by rw [hrc]; simp)
      have e2 : (rc .done (some .ret)).pending = some .ret := by rw [hrc]
      rw [e2] at h2
      exact ⟨some .ret, _, h2, hstop _ pre _ (Nat.le_refl _) hSp (hbk.own hIx (by omega) hi) (hbk.put _).defs⟩
end Go.Proofs.Ytndamiocmdnenaa
