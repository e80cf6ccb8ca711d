/- CgL1, RangeMem, CgL2: texts of this seat, one behind the other. -/
import Derived.Test.YtfpjkedcpnmfeaaDoorM9
import Derived.Test.YtfpjkedcpnmfeaaDoorRows
import Derived.Shelf.Strings.SplitCore
import Derived.Lib.SplitLaws
import Derived.RangeFuncNested
import Derived.RangeFuncBound
import Derived.RangeFuncCalls
import Derived.RangeFuncLeaves
import Derived.Shelf.Abstract
import Derived.Shelf.RegionOpen
import Derived.WalkKit
import Derived.OwnWalkIn
import Derived.TacticsInMore
import Derived.LoopNIn
import Derived.LoopIn
import Derived.Test.YtfpjkedcpnmfeaaDoorM3
/- strings.Split at a mark of one byte; config.lines: what it makes. -/
namespace Go.Proofs.YtfpjkedcpnmfeaaDoor
set_option linter.unusedVariables false
set_option linter.unusedSimpArgs false
open Go.RowKit Go.Lib

theorem one_sz (c : UInt8) : 1 ≤ (⟨#[c]⟩ : ByteArray).size := Nat.le_refl 1
theorem ix_byte (c : UInt8) (s : ByteArray) : indexB s ⟨#[c]⟩ = indexByte s.data.toList c := index_one s.data.toList c
theorem split_pieces (c : UInt8) : ∀ (n : Nat) (s : ByteArray), s.size ≤ n → splitB ⟨#[c]⟩ 0 (countB s ⟨#[c]⟩) s = (piecesL c s.data.toList).map bs
  | n, s, hn => by
    rcases cutL_index c s.data.toList with ⟨h1, h2⟩ | ⟨i, h1, h2, h3⟩
    · have hix : indexB s ⟨#[c]⟩ = -1 := (ix_byte c s).trans h1
      rw [splitB_miss _ _ _ _ hix, pieces_cut, h2]
      simp [bs_of]
    · have hix : indexB s ⟨#[c]⟩ = (i : Int) := (ix_byte c s).trans h1
      have h2' : i < s.size := h2
      rw [countB_hit s ⟨#[c]⟩ i (one_sz c) hix, Nat.add_comm, splitB_hit _ _ _ _ i hix, pieces_cut, h3]
      have e0 : s.extract 0 (i + 0) = bs (s.data.toList.take i) := by rw [Nat.add_zero]; exact ex_take s i
      have e1 : s.extract (i + (⟨#[c]⟩ : ByteArray).size) s.size = bs (s.data.toList.drop (i + 1)) := ex_drop s (i + 1) (by omega)
      have hsz : (bs (s.data.toList.drop (i + 1))).size < s.size := by
        rw [bs_size, List.length_drop]
        have e : s.data.toList.length = s.size := rfl
        omega
      match n, hn with
      | 0, hn => omega
      | n + 1, hn =>
        have ih := split_pieces c n (bs (s.data.toList.drop (i + 1))) (by omega)
        rw [bs_data] at ih
        simp only [if_pos, List.map_cons]
        rw [e0, e1, ih]

theorem pieces_count (c : UInt8) (s : ByteArray) : (piecesL c s.data.toList).length = countB s ⟨#[c]⟩ + 1 := by
  have h := splitB_all ⟨#[c]⟩ (one_sz c) 0 _ s rfl
  rw [split_pieces c _ s (Nat.le_refl _), List.length_map] at h
  exact h

set_option maxRecDepth 100000 in
set_option maxHeartbeats 1000000 in
theorem split_ok (s : ByteArray) (c : UInt8) (w : World) (hs : s.size ≤ 4096) :
    Calls Tryd.prog 53 #[.string s, .string ⟨#[c]⟩] w fun e w' => e = .returned (.slice (some ⟨w.heap.size, 0, none⟩) (piecesL c s.data.toList).length (piecesL c s.data.toList).length) ∧
      w' = w.alloc (.cells (((piecesL c s.data.toList).map fun p => Value.string (bs p)).toArray) 9) := by
  have hI : ∀ (x : ByteArray) (cs : Array Value), x.size ≤ s.size → Calls Tryd.prog 78 #[.string x, .string ⟨#[c]⟩] (w.alloc (.cells cs 9)) fun e w' => e = .returned (.int .i64 (indexB x ⟨#[c]⟩)) ∧ w' = w.alloc (.cells cs 9) := fun x cs _ => by
    rw [ix_byte]
    exact Tryd.strings_Index_one x c _
  have hC : Calls Tryd.prog 77 #[.string s, .string ⟨#[c]⟩] w fun e w' => e = .returned (.int .i64 (countB s ⟨#[c]⟩)) ∧ w' = w := by
    have e : ((countB s ⟨#[c]⟩ : Nat) : Int) = (countByte s.data.toList c : Nat) := by
      have : countB s ⟨#[c]⟩ = s.data.toList.count c := count_one c s.data.toList
      rw [this]; rfl
    rw [e]
    exact Tryd.strings_Count_one s c w
  have hle := countB_le ⟨#[c]⟩ (one_sz c) s.size s (Nat.le_refl _)
  have g := Any.strings_genSplit_core Tryd.lays221 (by kernel_rfl) s ⟨#[c]⟩ 0 (-1) (countB s ⟨#[c]⟩ + 1) w (by omega) (one_sz c) (Nat.zero_le _) hI hC (by decide) (by decide) (by rw [if_pos (by decide)]; omega)
  rw [Nat.add_sub_cancel] at g
  have hlen := splitB_all ⟨#[c]⟩ (one_sz c) 0 _ s rfl
  have e2 : cellsOf (splitB ⟨#[c]⟩ 0 (countB s ⟨#[c]⟩) s) (countB s ⟨#[c]⟩ + 1) = ((piecesL c s.data.toList).map fun p => Value.string (bs p)).toArray := by
    rw [← hlen, cellsOf_full, split_pieces c _ s (Nat.le_refl _), List.map_map]; rfl
  rw [hlen, e2, ← pieces_count] at g
  have G := Lib.hid (show Calls Tryd.prog 65 #[.string s, .string ⟨#[c]⟩, .int .i64 0, .int .i64 (-1)] w fun e w' => e = .returned (.slice (some ⟨w.heap.size, 0, none⟩) (piecesL c s.data.toList).length (piecesL c s.data.toList).length) ∧ w' = w.alloc (.cells (((piecesL c s.data.toList).map fun p => Value.string (bs p)).toArray) 9) from g)
  clear g e2 hlen hle hI hC
  go_enter Tryd.func53, Tryd.ntmps53
  go_wp2_with (go_at_call 65; refine G.out.mono ?_; rintro e w' ⟨rfl, rfl⟩)
  go_ret
  exact ⟨rfl, rfl⟩

set_option maxHeartbeats 400000 in
theorem lines_ok (s : ByteArray) (w : World) :
    Calls Tryd.prog 26 #[.string s] w fun e w' => e = .returned (.func (.func 51) #[] #[.pointer (some ⟨w.heap.size, 0, none⟩)]) ∧
      w' = w.alloc (.cells #[.string s] 9) := by
  have h : ∀ (fn : Fn) (first cap : Array Value) (w : World), (Instr.makeFunc fn first cap).run Tryd.prog w = .ok (.func fn first cap) w := fun _ _ _ _ => rfl
  go_enter Tryd.func26, Tryd.ntmps26
  go_wp2
  go_ret
  exact ⟨rfl, rfl⟩
end Go.Proofs.YtfpjkedcpnmfeaaDoor

/- A range over a function whose values are slices that the iterator has just made: the body is told, in each round, what its values read as in memory. Nothing of the program is named here. -/
namespace Go.Proofs.YtfpjkedcpnmfeaaDoor
set_option linter.unusedVariables false
set_option linter.unusedSimpArgs false
open Go.RowKit

/-- An iterator's contract, where each round is told that R holds of what it is handed. -/
def SeqReads {α : Type} (F : Fence) (n : Nat) (P : Program) (g : Nat) (lb : Array Value) (encs : α → Array Value) (R : α → World → Prop) (Kp : World → World → Prop) (S Sp : List α → Prop) (N : Nat) (w : World) : Prop :=
  ∀ (l : Nat) (J Jx : List α → World → Prop) (W : World), Below w.heap.size w W → AbidesFrom W.heap.size J → AbidesFrom W.heap.size Jx →
    (∀ pre x u, J pre u → R x u → pre.length < N → YieldAt F (n - 1) P l (encs x) u fun e u' =>
      (e = .returned (.bool true) ∧ J (pre ++ [x]) u' ∧ Kp u u') ∨ (e = .returned (.bool false) ∧ Jx (pre ++ [x]) u')) →
    J [] W →
    CallsIn F n P g (#[.func (.yield l) #[] #[]] ++ lb) W fun e W' => (∃ v, e = .returned v) ∧ ((∃ xs, S xs ∧ J xs W') ∨ (∃ pre, Sp pre ∧ Jx pre W'))

/-- The two blocks that such a loop lays for itself, from block b on. -/
structure Books (b : Nat) (r : Loop) (W : World) : Prop where
  defs : W.heap[b]? = some (.deferred (some []))
  rec_ : W.heap[b + 1]? = some (.loop r)
theorem Books.lt {b : Nat} {r : Loop} {W : World} (h : Books b r W) : b + 1 < W.heap.size := (Array.getElem?_eq_some_iff.1 h.rec_).1
theorem Books.walks {b : Nat} {r : Loop} {W W' : World} {row : Option Nat} (h : Books b r W) (hg : W.grownBy W' row) (hr : ∀ k, row = some k → ∃ o : Obj, W.heap[k]? = some o ∧ o.isWalk = true) : Books b r W' :=
  ⟨(grownBy_keeps hg hr h.defs rfl).trans h.defs, (grownBy_keeps hg hr h.rec_ rfl).trans h.rec_⟩
theorem Books.others {b : Nat} {r : Loop} {W W' : World} (h : Books b r W) (hk : KeepsOthers W W') : Books b r W' := ⟨hk.same _ _ h.defs rfl, hk.same _ _ h.rec_ rfl⟩
theorem Books.put {b : Nat} {r : Loop} {W : World} (h : Books b r W) (r' : Loop) : Books b r' (W.putObj (b + 1) (.loop r')) :=
  ⟨(World.putObj_heap_other (by omega)).trans h.defs, World.putObj_heap_same h.lt⟩
theorem Books.own {β : Type} {B b : Nat} {r r' : Loop} {I : β → World → Prop} {s : β} {W : World} (hI : OwnFrom B I) (h : Books b r W) (hB : B ≤ b + 1) (hs : I s W) : I s (W.putObj (b + 1) (.loop r')) :=
  hI.putObj _ hs hB h.rec_ rfl
theorem Books.new (w : World) (r : Loop) : Books w.heap.size r ((w.alloc (.deferred (some []))).alloc (.loop r)) := by
  refine ⟨(Below.heap_alloc _ _ _ (by rw [World.size_alloc]; omega)).trans (World.alloc_heap_new w _), ?_⟩
  have := World.alloc_heap_new (w.alloc (.deferred (some []))) (.loop r)
  rwa [World.size_alloc] at this

variable {F : Fence} {n : Nat} {P : Program}

/-- 'for .. := range it { .. }' at such an iterator, outside every other loop of this kind. The body goes on, or returns. -/
theorem rangeFunc_reads {α : Type} {g : Operand} {ps : Array Tmp} {assign body : Code} {Q : Exit → Act → World → Prop} {a : Act} {w : World}
    (hro : F.round = none) (h1 : 1 ≤ n) {gf : Nat} {lb : Array Value} (hg : a.eval g = .func (.func gf) #[] lb) (hFg : F.fn gf) (eg : ∀ args w, (callFunc gf args).run P w = .ok (.enter gf args) w)
    {encs : α → Array Value} {R : α → World → Prop} {Kp : World → World → Prop} {S Sp : List α → Prop} {N : Nat} {w0 : World} (hseq : SeqReads F (n - 1) P gf lb encs R Kp S Sp N w0)
    (hKt : ∀ {A B C : World}, Kp A B → Kp B C → Kp A C) (hKb : ∀ (W : World) (l : Nat) (o o' : Obj), w.heap.size ≤ l → W.heap[l]? = some o → o.isCells = false → o.isWalk = false → Kp W (W.putObj l o'))
    (hb0 : Below w0.heap.size w0 w) (hps : ∀ x, (encs x).size = ps.size)
    (I Ix : List α → World → Prop) (hI : OwnFrom w.heap.size I) (hIx : OwnFrom w.heap.size Ix) (hR : OwnFrom w.heap.size R) (h0 : I [] w) (a₁ : α → Act)
    (hassign : ∀ (l : Nat) (x : α) (W : World) (K : Act → World → Prop), K (a₁ x) W →
      assign.wpIn (F.inRound l) (n - 1 - 1) P (Exit.then K (fun _ _ _ => False)) { tmps := (ps.zip (encs x)).foldl (fun t (p, v) => t.setIfInBounds p v) a.tmps, defers := [] } W)
    (hbody : ∀ (l : Nat) (pre : List α) (x : α) (W : World), I pre W → R x W → pre.length < N →
      body.wpIn (F.inRound l) (n - 1 - 1) P (fun e _ W' => KeepsOthers W W' ∧ ((e = .normal ∧ Kp W W' ∧ I (pre ++ [x]) W') ∨ (e = .ret ∧ Ix (pre ++ [x]) W'))) (a₁ x) W)
    (hdone : ∀ (D : Nat) (xs : List α) (W : World), w.heap.size ≤ D → S xs → I xs W → W.heap[D]? = some (.deferred (some [])) → Q .normal { a with defers := { target := .collected D, args := #[] } :: a.defers } W)
    (hstop : ∀ (D : Nat) (pre : List α) (W : World), w.heap.size ≤ D → Sp pre → Ix pre W → W.heap[D]? = some (.deferred (some [])) → Code.ret.wpIn F n P Q { a with defers := { target := .collected D, args := #[] } :: a.defers } W) :
    (Code.rangeFunc g ps assign body).wpIn F n P Q a w := by
  refine wpIn_rangeFunc fun fn hfn => ?_
  rw [hro]
  -- the loop's record, at each state and pending way out
  obtain ⟨rc, hrc⟩ : ∃ rc : LoopState → Option Code → Loop, ∀ s p, rc s p = { state := s, pending := p, fn := fn, tmps := a.tmps, params := ps, assign := assign, body := body, defers := w.heap.size } := ⟨_, fun _ _ => rfl⟩
  obtain ⟨U, hU⟩ : ∃ U, (w.alloc (.deferred (some []))).alloc (.loop (rc .ready none)) = U := ⟨_, rfl⟩
  have bU : Books w.heap.size (rc .ready none) U := by rw [← hU]; exact Books.new w _
  have iU : I [] U := by rw [← hU]; exact hI.alloc _ (hI.alloc _ h0)
  have sU : U.heap.size = w.heap.size + 2 := by rw [← hU, World.size_alloc, World.size_alloc]
  have lU : Below w0.heap.size w0 U := by rw [← hU]; exact (hb0.alloc hb0.size _).alloc (by rw [World.size_alloc]; have := hb0.size; omega) _
  refine ⟨w.heap.size + 1, _, U, { target := .fn (.func gf) lb, args := #[.func (.yield (w.heap.size + 1)) #[] #[]] }, U, gf, #[.func (.yield (w.heap.size + 1)) #[] #[]] ++ lb, U,
    by rw [← hU, hrc]; exact run_enterLoop_outer _ _ _ _ _, by simp only [resolve, hg]; simp [go_sem], ?_, by simp [invoke, go_sem, eg], fun _ => h1, ?_⟩
  · intro k hk
    simp [Target.leads] at hk
    subst hk; exact hFg
  have beyond : ∀ {V : World} {row : Option Nat}, (∀ r, row = some r → U.heap.size ≤ r ∧ ∃ o : Obj, V.heap[r]? = some o ∧ o.isWalk = true) → ∀ r, row = some r → w.heap.size ≤ r ∧ ∃ o : Obj, V.heap[r]? = some o ∧ o.isCells = false :=
    fun h r e => by obtain ⟨h1, o, h2, h3⟩ := h r e; exact ⟨by omega, o, h2, Obj.not_cells_of_walk h3⟩
  refine (hseq (w.heap.size + 1) (fun pre W => I pre W ∧ Books w.heap.size (rc .ready none) W) (fun pre W => Ix pre W ∧ Books w.heap.size (rc .done (some .ret)) W) U lU
    (fun s V V' row hs hgr hr => ⟨hI s V V' row hs.1 hgr (beyond hr), hs.2.walks hgr (fun k e => (hr k e).2)⟩)
    (fun s V V' row hs hgr hr => ⟨hIx s V V' row hs.1 hgr (beyond hr), hs.2.walks hgr (fun k e => (hr k e).2)⟩) ?_ ⟨iU, bU⟩).mono ?_
  · rintro pre x V ⟨hi, hbk⟩ hRx hlen
    have hy := run_yield (P := P) (args := encs x) hbk.rec_ (by rw [hrc]; exact hps x)
    rw [hrc] at hy
    refine ⟨fn, _, assign, body, hy, roundIn_of_wpIn hfn (hassign _ x V _ ⟨_, run_beginRound hbk.rec_ (by rw [hrc]), ?_⟩)⟩
    have hbusy : ({ rc .ready none with state := .busy } : Loop) = rc .busy none := by rw [hrc, hrc]
    rw [hbusy]
    have hb1 : Books w.heap.size (rc .busy none) (V.putObj (w.heap.size + 1) (.loop (rc .busy none))) := hbk.put _
    refine wpIn_mono (hbody _ pre x _ (hbk.own hI (by omega) hi) (hbk.own hR (by omega) hRx) hlen) ?_
    rintro e a3 V3 ⟨hko, hway⟩
    have hb3 := hb1.others hko
    have hend := fun jump => run_endRound (P := P) jump hb3.rec_
    rcases hway with ⟨rfl, hkp, hi3⟩ | ⟨rfl, hi3⟩
    · have h2 := hend none
      have e2 : ({ rc .busy none with state := if (none : Option Code).isNone then .ready else .done, pending := none } : Loop) = rc .ready none := by rw [hrc, hrc]; rfl
      rw [e2] at h2
      exact ⟨_, _, h2, .inl ⟨rfl, ⟨hb3.own hI (by omega) hi3, hb3.put _⟩, hKt (hKt (hKb _ _ _ _ (by omega) hbk.rec_ rfl rfl) hkp) (hKb _ _ _ _ (by omega) hb3.rec_ rfl rfl)⟩⟩
    · have h2 := hend (some .ret)
      have e2 : ({ rc .busy none with state := if (some Code.ret).isNone then .ready else .done, pending := some Code.ret } : Loop) = rc .done (some .ret) := by rw [hrc, hrc]; rfl
      rw [e2] at h2
      exact ⟨_, _, h2, .inr ⟨rfl, hb3.own hIx (by omega) hi3, hb3.put _⟩⟩
  · rintro e V ⟨⟨v, rfl⟩, (⟨xs, hS, hi, hbk⟩ | ⟨pre, hSp, hi, hbk⟩)⟩
    · have h2 := run_endLoop (P := P) hbk.rec_ (by rw [hrc]; simp)
      have e2 : (rc .ready none).pending = none := by rw [hrc]
      rw [e2] at h2
      exact ⟨none, _, h2, hdone _ xs _ (Nat.le_refl _) hS (hbk.own hI (by omega) hi) (hbk.put _).defs⟩
    · have h2 := run_endLoop (P := P) hbk.rec_ (by rw [hrc]; simp)
      have e2 : (rc .done (some .ret)).pending = some .ret := by rw [hrc]
      rw [e2] at h2
      exact ⟨some .ret, _, h2, hstop _ pre _ (Nat.le_refl _) hSp (hbk.own hIx (by omega) hi) (hbk.put _).defs⟩
end Go.Proofs.YtfpjkedcpnmfeaaDoor

/- config.lines$1, the iterator: its contract. -/
namespace Go.Proofs.YtfpjkedcpnmfeaaDoor
set_option linter.unusedVariables false
set_option linter.unusedSimpArgs false
open Go.RowKit Go.Shelf
attribute [local go_sem] Oper.semAt_some

/-- A line: its words, where they lie, whether it has an end. -/
structure Ln where
  b : Nat
  ws : List (List UInt8)
  e : Bool
  few : ws.length ≤ 4097
  small : ∀ p ∈ ws, p.length ≤ 4096
  some_ : ws ≠ []
abbrev lcs (x : Ln) : Array Value := #[.slice (some ⟨x.b, 0, none⟩) x.ws.length x.ws.length, .bool x.e]
def wcs (ws : List (List UInt8)) : Array Value := (ws.map fun p => Value.string (bs p)).toArray
/-- What is told of it in each round. -/
def Tl (B : Nat) (x : Ln) (W : World) : Prop := B ≤ x.b ∧ Bk W x.b 9 (wcs x.ws)
theorem tl_own (B B' : Nat) : OwnFrom B' (Tl B) := fun x W W' row hs hg hr => ⟨hs.1, (hg.block x.b hs.2.lt (fun e => by
  obtain ⟨_, o, ho, hc⟩ := hr x.b e.symm
  rw [show W.heap[x.b]? = _ from hs.2] at ho; cases ho; cases hc)).trans hs.2⟩
def gL (x : Ln) : List (List UInt8) × Bool := (x.ws, x.e)
def lns (l : List UInt8) : List (List (List UInt8) × Bool) := (linesL l).map fun p => (piecesL 32 p.1, p.2)
theorem lns_nil : lns [] = [] := rfl
theorem lns_cut (l : List UInt8) (h : l ≠ []) : lns l = (piecesL 32 (cutL 10 l).1, (cutL 10 l).2.2) :: lns (cutL 10 l).2.1 := by unfold lns; rw [lines_cut l h]; rfl
theorem lns_len : ∀ l : List UInt8, (lns l).length ≤ l.length := fun l => by
  unfold lns
  rw [List.length_map]
  induction l with
  | nil => simp [linesL]
  | cons x r ih =>
    unfold linesL
    by_cases hx : x = 10
    · rw [if_pos hx, List.length_cons, List.length_cons]; omega
    · rw [if_neg hx]
      cases hl : linesL r with
      | nil => simp
      | cons q qs => rw [hl] at ih; simp only [List.length_cons] at ih ⊢; omega
def meaL : Value → Nat
  | .string s => s.size
  | _ => 0
theorem gb_below {w w' : World} (h : Below w.heap.size w w') : w.grownBy w' none := ⟨h.os, h.tape, h.output, h.size, fun k hk _ => h.block k hk⟩

set_option maxRecDepth 100000 in
set_option maxHeartbeats 2000000 in
theorem lines1_reads (n : Nat) (hn : 2 ≤ n) (Bb B : Nat) (s : ByteArray) (w : World) (hbox : Bk w Bb 9 #[.string s]) (hB : B ≤ w.heap.size) (hs : s.size ≤ 4096) :
    SeqReads Fence.wide n Tryd.prog 51 #[.pointer (some ⟨Bb, 0, none⟩)] lcs (Tl B) (fun u u' => u.heap.size ≤ u'.heap.size) (fun xs => xs.map gL = lns s.data.toList) (fun pre => pre.map gL <+: lns s.data.toList) 5000 w := fun lp J Jx W hW hJ hJx hY h0 => by
  refine callsIn_of_wp Tryd.func51 rfl trivial ?_ rfl
  simp only [Tryd.ntmps51, List.size_toArray, List.length_cons, List.length_nil, Nat.reduceAdd, Nat.reduceSub, Array.replicate_succ, Array.replicate_zero, List.push_toArray, List.append_toArray, List.nil_append, List.cons_append]
  have hc1 : W.cell? ⟨Bb, 0, none⟩ = some (.string s) := by rw [(hbox.below hW hbox.lt).cell]; rfl
  have HZ := Lib.hid (show B ≤ W.heap.size from Nat.le_trans hB hW.size)
  have HL := Lib.hid (show (lns s.data.toList).length ≤ 4096 from Nat.le_trans (lns_len _) hs)
  clear hbox hW
  gi_wp2
  clear hc1
  gi_loopw [3] (fun v3 wr => ∃ (pre : List Ln) (rest : List UInt8), v3 = .string (bs rest) ∧ Hid (lns s.data.toList = pre.map gL ++ lns rest) ∧ Hid (rest.length ≤ 4096) ∧ Hid (J pre wr) ∧ Hid (B ≤ wr.heap.size)) (fun v3 wr => meaL v3)
  case atStart =>
    exact ⟨[], s.data.toList, by rw [bs_of], Lib.hid rfl, Lib.hid hs, Lib.hid h0, HZ⟩
  case round =>
    obtain ⟨pre, rest, rfl, HC, HR, HJ, HZ3⟩ := hrel
    cases rest with
    | nil =>
      have he : (bs []).toList.isEmpty = true := by rw [bs_list]; rfl
      gi_wp2
      go_end0
      exact ⟨⟨_, rfl⟩, .inl ⟨pre, by rw [HC.out, lns_nil, List.append_nil], HJ.out⟩⟩
    | cons y ys =>
      have he : (bs (y :: ys)).toList.isEmpty = false := by rw [bs_list]; rfl
      have hE := HC.out
      rw [lns_cut (y :: ys) (by simp)] at hE
      have hLT := fun hm => cutL_lt 10 (y :: ys) hm
      have hsz := cutL_len 10 (y :: ys)
      have hmiss := (cutL_join 10 (y :: ys)).2
      obtain ⟨p, q, m, hc⟩ : ∃ p q m, cutL 10 (y :: ys) = (p, q, m) := ⟨_, _, _, rfl⟩
      rw [hc] at hE hLT hsz hmiss
      simp only at hE hLT hsz hmiss
      obtain ⟨R, hRR⟩ : ∃ R, bs (y :: ys) = R := ⟨_, rfl⟩
      have hRl : R.size = (y :: ys).length := by rw [← hRR, bs_size]
      have hr0 := HR.out
      have hcut := Lib.hid (fun u => cut_ok R 10 u (by rw [hRl]; omega))
      have hV : cutV 10 R = .tuple #[.string (bs p), .string (bs q), .bool m] := by unfold cutV; rw [← hRR, bs_data, hc]
      rw [hV] at hcut
      have hspl := Lib.hid (fun u => split_ok (bs p) 32 u (by rw [bs_size]; omega))
      rw [bs_data] at hspl
      have hx1 : (piecesL 32 p).length ≤ 4097 := by have := pieces_len 32 p; omega
      have hx2 : ∀ z ∈ piecesL 32 p, z.length ≤ 4096 := fun z hz => by have := pieces_small 32 p z hz; omega
      have hx3 : piecesL 32 p ≠ [] := by rw [pieces_cut]; simp
      obtain ⟨ws, hws⟩ : ∃ ws, piecesL 32 p = ws := ⟨_, rfl⟩
      rw [hws] at hE hx1 hx2 hx3 hspl
      have hlen : pre.length < 5000 := by
        have := congrArg List.length hE
        rw [List.length_append, List.length_map] at this
        have := HL.out
        omega
      have HE2 := Lib.hid (fun b => show lns s.data.toList = (pre ++ [(⟨b, ws, m, hx1, hx2, hx3⟩ : Ln)]).map gL ++ lns q by
        rw [hE, List.map_append, List.append_assoc]; rfl)
      have HYY := Lib.hid (fun (k : Nat) => (show YieldAt Fence.wide (n - 1) Tryd.prog lp #[.slice (some ⟨wr.heap.size, 0, none⟩) ws.length ws.length, .bool m] ((wr.drewN k).alloc (.cells ((ws.map fun p => Value.string (bs p)).toArray) 9)) (fun e u' =>
          (e = .returned (.bool true) ∧ J (pre ++ [(⟨wr.heap.size, ws, m, hx1, hx2, hx3⟩ : Ln)]) u' ∧ ((wr.drewN k).alloc (.cells (wcs ws) 9)).heap.size ≤ u'.heap.size) ∨ (e = .returned (.bool false) ∧ Jx (pre ++ [(⟨wr.heap.size, ws, m, hx1, hx2, hx3⟩ : Ln)]) u')) from
        hY pre (⟨wr.heap.size, ws, m, hx1, hx2, hx3⟩ : Ln) ((wr.drewN k).alloc (.cells (wcs ws) 9)) (hJ _ _ _ none (hJ _ _ (wr.drewN k) none HJ.out ⟨rfl, rfl, rfl, Nat.le_refl _, fun _ _ _ => rfl⟩ (fun r e => by cases e)) (World.grownBy_alloc (wr.drewN k) _ none) (fun r e => by cases e)) ⟨HZ3.out, Bk.new (wr.drewN k) _ _⟩ hlen))
      have HQ := Lib.hid (show (bs q).size < R.size ∧ q.length ≤ 4096 by
        rw [bs_size, hRl]
        refine ⟨?_, by omega⟩
        cases hm : m with
        | true => exact hLT hm
        | false => rw [(hmiss hm).2]; simp)
      have hn0 : 1 ≤ n := by omega
      have hn1 : 1 ≤ n - 1 := by omega
      rw [hRR] at he ⊢
      have hwl : ws.length ≤ 9223372036854775807 := by omega
      clear hE hc hV hLT hsz hmiss hRl hr0 hlen hws hRR HC HR
      gi_wp2_with (refine ⟨trivial, ?_⟩; first
        | (gi_at_call 52; refine (callsIn_wide.2 (hcut.out _)).mono ?_; rintro e w' ⟨rfl, k, rfl⟩)
        | (gi_at_call 53; refine (callsIn_wide.2 (hspl.out _)).mono ?_; rintro e w' ⟨rfl, rfl⟩; obtain ⟨fn, tmps, assign, body, hy, hR⟩ := HYY.out k))
      refine hR.mono ?_
      clear hy hR
      rintro e W2 (⟨rfl, hJ2, hsz2⟩ | ⟨rfl, hJx2⟩)
      · have HJ2 := Lib.hid hJ2
        rw [World.size_alloc] at hsz2
        have HZ4 := Lib.hid (show B ≤ W2.heap.size from Nat.le_trans HZ3.out (Nat.le_trans (Nat.le_succ _) hsz2))
        clear hJ2 hsz2
        gi_wp2
        go_roundw
        case rel => exact ⟨_, q, rfl, HE2.out _, Lib.hid HQ.out.2, HJ2, HZ4⟩
        case measure => simp only [meaL]; have := HQ.out.1; omega
      · gi_wp2
        refine bodyPost_ret (results_none rfl _ _ _) rfl ?_
        exact ⟨⟨_, rfl⟩, .inr ⟨_, by rw [HE2.out wr.heap.size]; exact List.prefix_append _ _, hJx2⟩⟩
end Go.Proofs.YtfpjkedcpnmfeaaDoor
