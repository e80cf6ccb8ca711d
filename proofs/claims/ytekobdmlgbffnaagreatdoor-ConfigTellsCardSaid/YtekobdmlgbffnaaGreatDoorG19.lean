/- CgL1, RangeMem, CgL2, CgL3, InReg: texts of this seat, one behind the other. -/
import Derived.Test.YtekobdmlgbffnaaGreatDoorG9
import Derived.Test.YtekobdmlgbffnaaGreatDoorRows
import Derived.Shelf.Strings.SplitCore
import Derived.Lib.SplitLaws
import Derived.RangeFuncNested
import Derived.RangeFuncBound
import Derived.RangeFuncCalls
import Derived.RangeFuncLeaves
import Derived.Shelf.Abstract
import Derived.Shelf.RegionOpen
import Derived.WalkKit
import Derived.OwnWalkIn
import Derived.TacticsInMore
import Derived.LoopNIn
import Derived.LoopIn
import Derived.Test.YtekobdmlgbffnaaGreatDoorG3
import Derived.Test.YtekobdmlgbffnaaGreatDoorCgP6
import Derived.Test.YtekobdmlgbffnaaGreatDoorCgP7
import Derived.Test.YtekobdmlgbffnaaGreatDoorG13
import Derived.Test.YtekobdmlgbffnaaGreatDoorG2
import Derived.ControlIn
import Derived.OrdersIn
import Derived.CallsIn
/- strings.Split at a mark of one byte; config.lines: what it makes. -/
namespace Go.Proofs.YtekobdmlgbffnaaGreatDoor
set_option linter.unusedVariables false
set_option maxRecDepth 100000
set_option linter.unusedSimpArgs false
open Go.RowKit Go.Lib

theorem one_sz (c : UInt8) : 1 ≤ (⟨#[c]⟩ : ByteArray).size := Nat.le_refl 1
theorem ix_byte (c : UInt8) (s : ByteArray) : indexB s ⟨#[c]⟩ = indexByte s.data.toList c := index_one s.data.toList c
theorem split_pieces (c : UInt8) : ∀ (n : Nat) (s : ByteArray), s.size ≤ n → splitB ⟨#[c]⟩ 0 (countB s ⟨#[c]⟩) s = (piecesL c s.data.toList).map bs
  | n, s, hn => by
    rcases cutL_index c s.data.toList with ⟨h1, h2⟩ | ⟨i, h1, h2, h3⟩
    · have hix : indexB s ⟨#[c]⟩ = -1 := (ix_byte c s).trans h1
      rw [splitB_miss _ _ _ _ hix, pieces_cut, h2]
      simp [bs_of]
    · have hix : indexB s ⟨#[c]⟩ = (i : Int) := (ix_byte c s).trans h1
      have h2' : i < s.size := h2
      rw [countB_hit s ⟨#[c]⟩ i (one_sz c) hix, Nat.add_comm, splitB_hit _ _ _ _ i hix, pieces_cut, h3]
      have e0 : s.extract 0 (i + 0) = bs (s.data.toList.take i) := by rw [Nat.add_zero]; exact ex_take s i
      have e1 : s.extract (i + (⟨#[c]⟩ : ByteArray).size) s.size = bs (s.data.toList.drop (i + 1)) := ex_drop s (i + 1) (by omega)
      have hsz : (bs (s.data.toList.drop (i + 1))).size < s.size := by
        rw [bs_size, List.length_drop]
        have e : s.data.toList.length = s.size := rfl
        omega
      match n, hn with
      | 0, hn => omega
      | n + 1, hn =>
        have ih := split_pieces c n (bs (s.data.toList.drop (i + 1))) (by omega)
        rw [bs_data] at ih
        simp only [if_pos, List.map_cons]
        rw [e0, e1, ih]

theorem pieces_count (c : UInt8) (s : ByteArray) : (piecesL c s.data.toList).length = countB s ⟨#[c]⟩ + 1 := by
  have h := splitB_all ⟨#[c]⟩ (one_sz c) 0 _ s rfl
  rw [split_pieces c _ s (Nat.le_refl _), List.length_map] at h
  exact h

set_option maxRecDepth 100000 in
set_option maxHeartbeats 1000000 in
theorem split_ok (s : ByteArray) (c : UInt8) (w : World) (hs : s.size ≤ 4096) :
    Calls Tryz.prog 74 #[.string s, .string ⟨#[c]⟩] w fun e w' => e = .returned (.slice (some ⟨w.heap.size, 0, none⟩) (piecesL c s.data.toList).length (piecesL c s.data.toList).length) ∧
      w' = w.alloc (.cells (((piecesL c s.data.toList).map fun p => Value.string (bs p)).toArray) 9) := by
  have hI : ∀ (x : ByteArray) (cs : Array Value), x.size ≤ s.size → Calls Tryz.prog 137 #[.string x, .string ⟨#[c]⟩] (w.alloc (.cells cs 9)) fun e w' => e = .returned (.int .i64 (indexB x ⟨#[c]⟩)) ∧ w' = w.alloc (.cells cs 9) := fun x cs _ => by
    rw [ix_byte]
    exact Tryz.strings_Index_one x c _
  have hC : Calls Tryz.prog 136 #[.string s, .string ⟨#[c]⟩] w fun e w' => e = .returned (.int .i64 (countB s ⟨#[c]⟩)) ∧ w' = w := by
    have e : ((countB s ⟨#[c]⟩ : Nat) : Int) = (countByte s.data.toList c : Nat) := by
      have : countB s ⟨#[c]⟩ = s.data.toList.count c := count_one c s.data.toList
      rw [this]; rfl
    rw [e]
    exact Tryz.strings_Count_one s c w
  have hle := countB_le ⟨#[c]⟩ (one_sz c) s.size s (Nat.le_refl _)
  have g := Any.strings_genSplit_core Tryz.lays221 (by kernel_rfl) s ⟨#[c]⟩ 0 (-1) (countB s ⟨#[c]⟩ + 1) w (by omega) (one_sz c) (Nat.zero_le _) hI hC (by decide) (by decide) (by rw [if_pos (by decide)]; omega)
  rw [Nat.add_sub_cancel] at g
  have hlen := splitB_all ⟨#[c]⟩ (one_sz c) 0 _ s rfl
  have e2 : cellsOf (splitB ⟨#[c]⟩ 0 (countB s ⟨#[c]⟩) s) (countB s ⟨#[c]⟩ + 1) = ((piecesL c s.data.toList).map fun p => Value.string (bs p)).toArray := by
    rw [← hlen, cellsOf_full, split_pieces c _ s (Nat.le_refl _), List.map_map]; rfl
  rw [hlen, e2, ← pieces_count] at g
  have G := Lib.hid (show Calls Tryz.prog 112 #[.string s, .string ⟨#[c]⟩, .int .i64 0, .int .i64 (-1)] w fun e w' => e = .returned (.slice (some ⟨w.heap.size, 0, none⟩) (piecesL c s.data.toList).length (piecesL c s.data.toList).length) ∧ w' = w.alloc (.cells (((piecesL c s.data.toList).map fun p => Value.string (bs p)).toArray) 9) from g)
  clear g e2 hlen hle hI hC
  go_enter Tryz.func74, Tryz.ntmps74
  go_wp2_with (go_at_call 112; refine G.out.mono ?_; rintro e w' ⟨rfl, rfl⟩)
  go_ret
  exact ⟨rfl, rfl⟩

set_option maxHeartbeats 400000 in
theorem lines_ok (s : ByteArray) (w : World) :
    Calls Tryz.prog 34 #[.string s] w fun e w' => e = .returned (.func (.func 72) #[] #[.pointer (some ⟨w.heap.size, 0, none⟩)]) ∧
      w' = w.alloc (.cells #[.string s] 9) := by
  have h : ∀ (fn : Fn) (first cap : Array Value) (w : World), (Instr.makeFunc fn first cap).run Tryz.prog w = .ok (.func fn first cap) w := fun _ _ _ _ => rfl
  go_enter Tryz.func34, Tryz.ntmps34
  go_wp2
  go_ret
  exact ⟨rfl, rfl⟩
end Go.Proofs.YtekobdmlgbffnaaGreatDoor

/- A range over a function whose values are slices that the iterator has just made: the body is told, in each round, what its values read as in memory. Nothing of the program is named here. -/
namespace Go.Proofs.YtekobdmlgbffnaaGreatDoor
set_option linter.unusedVariables false
set_option maxRecDepth 100000
set_option linter.unusedSimpArgs false
open Go.RowKit

/-- An iterator's contract, where each round is told that R holds of what it is handed. -/
def SeqReads {α : Type} (F : Fence) (n : Nat) (P : Program) (g : Nat) (lb : Array Value) (encs : α → Array Value) (R : α → World → Prop) (Kp : World → World → Prop) (S Sp : List α → Prop) (N : Nat) (w : World) : Prop :=
  ∀ (l : Nat) (J Jx : List α → World → Prop) (W : World), Below w.heap.size w W → AbidesFrom W.heap.size J → AbidesFrom W.heap.size Jx →
    (∀ pre x u, J pre u → R x u → pre.length < N → YieldAt F (n - 1) P l (encs x) u fun e u' =>
      (e = .returned (.bool true) ∧ J (pre ++ [x]) u' ∧ Kp u u') ∨ (e = .returned (.bool false) ∧ Jx (pre ++ [x]) u')) →
    J [] W →
    CallsIn F n P g (#[.func (.yield l) #[] #[]] ++ lb) W fun e W' => (∃ v, e = .returned v) ∧ ((∃ xs, S xs ∧ J xs W') ∨ (∃ pre, Sp pre ∧ Jx pre W'))

/-- The two blocks that such a loop lays for itself, from block b on. -/
structure Books (b : Nat) (r : Loop) (W : World) : Prop where
  defs : W.heap[b]? = some (.deferred (some []))
  rec_ : W.heap[b + 1]? = some (.loop r)
theorem Books.lt {b : Nat} {r : Loop} {W : World} (h : Books b r W) : b + 1 < W.heap.size := (Array.getElem?_eq_some_iff.1 h.rec_).1
theorem Books.walks {b : Nat} {r : Loop} {W W' : World} {row : Option Nat} (h : Books b r W) (hg : W.grownBy W' row) (hr : ∀ k, row = some k → ∃ o : Obj, W.heap[k]? = some o ∧ o.isWalk = true) : Books b r W' :=
  ⟨(grownBy_keeps hg hr h.defs rfl).trans h.defs, (grownBy_keeps hg hr h.rec_ rfl).trans h.rec_⟩
theorem Books.others {b : Nat} {r : Loop} {W W' : World} (h : Books b r W) (hk : KeepsOthers W W') : Books b r W' := ⟨hk.same _ _ h.defs rfl, hk.same _ _ h.rec_ rfl⟩
theorem Books.put {b : Nat} {r : Loop} {W : World} (h : Books b r W) (r' : Loop) : Books b r' (W.putObj (b + 1) (.loop r')) :=
  ⟨(World.putObj_heap_other (by omega)).trans h.defs, World.putObj_heap_same h.lt⟩
theorem Books.own {β : Type} {B b : Nat} {r r' : Loop} {I : β → World → Prop} {s : β} {W : World} (hI : OwnFrom B I) (h : Books b r W) (hB : B ≤ b + 1) (hs : I s W) : I s (W.putObj (b + 1) (.loop r')) :=
  hI.putObj _ hs hB h.rec_ rfl
theorem Books.new (w : World) (r : Loop) : Books w.heap.size r ((w.alloc (.deferred (some []))).alloc (.loop r)) := by
  refine ⟨(Below.heap_alloc _ _ _ (by rw [World.size_alloc]; omega)).trans (World.alloc_heap_new w _), ?_⟩
  have := World.alloc_heap_new (w.alloc (.deferred (some []))) (.loop r)
  rwa [World.size_alloc] at this

variable {F : Fence} {n : Nat} {P : Program}

/-- 'for .. := range it { .. }' at such an iterator, outside every other loop of this kind. The body goes on, or returns. -/
theorem rangeFunc_reads {α : Type} {g : Operand} {ps : Array Tmp} {assign body : Code} {Q : Exit → Act → World → Prop} {a : Act} {w : World}
    (hro : F.round = none) (h1 : 1 ≤ n) {gf : Nat} {lb : Array Value} (hg : a.eval g = .func (.func gf) #[] lb) (hFg : F.fn gf) (eg : ∀ args w, (callFunc gf args).run P w = .ok (.enter gf args) w)
    {encs : α → Array Value} {R : α → World → Prop} {Kp : World → World → Prop} {S Sp : List α → Prop} {N : Nat} {w0 : World} (hseq : SeqReads F (n - 1) P gf lb encs R Kp S Sp N w0)
    (hKt : ∀ {A B C : World}, Kp A B → Kp B C → Kp A C) (hKb : ∀ (W : World) (l : Nat) (o o' : Obj), w.heap.size ≤ l → W.heap[l]? = some o → o.isCells = false → o.isWalk = false → Kp W (W.putObj l o'))
    (hb0 : Below w0.heap.size w0 w) (hps : ∀ x, (encs x).size = ps.size)
    (I Ix : List α → World → Prop) (hI : OwnFrom w.heap.size I) (hIx : OwnFrom w.heap.size Ix) (hR : OwnFrom w.heap.size R) (h0 : I [] w) (a₁ : α → Act)
    (hassign : ∀ (l : Nat) (x : α) (W : World) (K : Act → World → Prop), K (a₁ x) W →
      assign.wpIn (F.inRound l) (n - 1 - 1) P (Exit.then K (fun _ _ _ => False)) { tmps := (ps.zip (encs x)).foldl (fun t (p, v) => t.setIfInBounds p v) a.tmps, defers := [] } W)
    (hbody : ∀ (l : Nat) (pre : List α) (x : α) (W : World), I pre W → R x W → pre.length < N →
      body.wpIn (F.inRound l) (n - 1 - 1) P (fun e _ W' => KeepsOthers W W' ∧ ((e = .normal ∧ Kp W W' ∧ I (pre ++ [x]) W') ∨ (e = .ret ∧ Ix (pre ++ [x]) W'))) (a₁ x) W)
    (hdone : ∀ (D : Nat) (xs : List α) (W : World), w.heap.size ≤ D → S xs → I xs W → W.heap[D]? = some (.deferred (some [])) → Q .normal { a with defers := { target := .collected D, args := #[] } :: a.defers } W)
    (hstop : ∀ (D : Nat) (pre : List α) (W : World), w.heap.size ≤ D → Sp pre → Ix pre W → W.heap[D]? = some (.deferred (some [])) → Code.ret.wpIn F n P Q { a with defers := { target := .collected D, args := #[] } :: a.defers } W) :
    (Code.rangeFunc g ps assign body).wpIn F n P Q a w := by
  refine wpIn_rangeFunc fun fn hfn => ?_
  rw [hro]
  -- the loop's record, at each state and pending way out
  obtain ⟨rc, hrc⟩ : ∃ rc : LoopState → Option Code → Loop, ∀ s p, rc s p = { state := s, pending := p, fn := fn, tmps := a.tmps, params := ps, assign := assign, body := body, defers := w.heap.size } := ⟨_, fun _ _ => rfl⟩
  obtain ⟨U, hU⟩ : ∃ U, (w.alloc (.deferred (some []))).alloc (.loop (rc .ready none)) = U := ⟨_, rfl⟩
  have bU : Books w.heap.size (rc .ready none) U := by rw [← hU]; exact Books.new w _
  have iU : I [] U := by rw [← hU]; exact hI.alloc _ (hI.alloc _ h0)
  have sU : U.heap.size = w.heap.size + 2 := by rw [← hU, World.size_alloc, World.size_alloc]
  have lU : Below w0.heap.size w0 U := by rw [← hU]; exact (hb0.alloc hb0.size _).alloc (by rw [World.size_alloc]; have := hb0.size; omega) _
  refine ⟨w.heap.size + 1, _, U, { target := .fn (.func gf) lb, args := #[.func (.yield (w.heap.size + 1)) #[] #[]] }, U, gf, #[.func (.yield (w.heap.size + 1)) #[] #[]] ++ lb, U,
    by rw [← hU, hrc]; exact run_enterLoop_outer _ _ _ _ _, by simp only [resolve, hg]; simp [go_sem], ?_, by simp [invoke, go_sem, eg], fun _ => h1, ?_⟩
  · intro k hk
    simp [Target.leads] at hk
    subst hk; exact hFg
  have beyond : ∀ {V : World} {row : Option Nat}, (∀ r, row = some r → U.heap.size ≤ r ∧ ∃ o : Obj, V.heap[r]? = some o ∧ o.isWalk = true) → ∀ r, row = some r → w.heap.size ≤ r ∧ ∃ o : Obj, V.heap[r]? = some o ∧ o.isCells = false :=
    fun h r e => by obtain ⟨h1, o, h2, h3⟩ := h r e; exact ⟨by omega, o, h2, Obj.not_cells_of_walk h3⟩
  refine (hseq (w.heap.size + 1) (fun pre W => I pre W ∧ Books w.heap.size (rc .ready none) W) (fun pre W => Ix pre W ∧ Books w.heap.size (rc .done (some .ret)) W) U lU
    (fun s V V' row hs hgr hr => ⟨hI s V V' row hs.1 hgr (beyond hr), hs.2.walks hgr (fun k e => (hr k e).2)⟩)
    (fun s V V' row hs hgr hr => ⟨hIx s V V' row hs.1 hgr (beyond hr), hs.2.walks hgr (fun k e => (hr k e).2)⟩) ?_ ⟨iU, bU⟩).mono ?_
  · rintro pre x V ⟨hi, hbk⟩ hRx hlen
    have hy := run_yield (P := P) (args := encs x) hbk.rec_ (by rw [hrc]; exact hps x)
    rw [hrc] at hy
    refine ⟨fn, _, assign, body, hy, roundIn_of_wpIn hfn (hassign _ x V _ ⟨_, run_beginRound hbk.rec_ (by rw [hrc]), ?_⟩)⟩
    have hbusy : ({ rc .ready none with state := .busy } : Loop) = rc .busy none := by rw [hrc, hrc]
    rw [hbusy]
    have hb1 : Books w.heap.size (rc .busy none) (V.putObj (w.heap.size + 1) (.loop (rc .busy none))) := hbk.put _
    refine wpIn_mono (hbody _ pre x _ (hbk.own hI (by omega) hi) (hbk.own hR (by omega) hRx) hlen) ?_
    rintro e a3 V3 ⟨hko, hway⟩
    have hb3 := hb1.others hko
    have hend := fun jump => run_endRound (P := P) jump hb3.rec_
    rcases hway with ⟨rfl, hkp, hi3⟩ | ⟨rfl, hi3⟩
    · have h2 := hend none
      have e2 : ({ rc .busy none with state := if (none : Option Code).isNone then .ready else .done, pending := none } : Loop) = rc .ready none := by rw [hrc, hrc]; rfl
      rw [e2] at h2
      exact ⟨_, _, h2, .inl ⟨rfl, ⟨hb3.own hI (by omega) hi3, hb3.put _⟩, hKt (hKt (hKb _ _ _ _ (by omega) hbk.rec_ rfl rfl) hkp) (hKb _ _ _ _ (by omega) hb3.rec_ rfl rfl)⟩⟩
    · have h2 := hend (some .ret)
      have e2 : ({ rc .busy none with state := if (some Code.ret).isNone then .ready else .done, pending := some Code.ret } : Loop) = rc .done (some .ret) := by rw [hrc, hrc]; rfl
      rw [e2] at h2
      exact ⟨_, _, h2, .inr ⟨rfl, hb3.own hIx (by omega) hi3, hb3.put _⟩⟩
  · rintro e V ⟨⟨v, rfl⟩, (⟨xs, hS, hi, hbk⟩ | ⟨pre, hSp, hi, hbk⟩)⟩
    · have h2 := run_endLoop (P := P) hbk.rec_ (by rw [hrc]; simp)
      have e2 : (rc .ready none).pending = none := by rw [hrc]
      rw [e2] at h2
      exact ⟨none, _, h2, hdone _ xs _ (Nat.le_refl _) hS (hbk.own hI (by omega) hi) (hbk.put _).defs⟩
    · have h2 := run_endLoop (P := P) hbk.rec_ (by rw [hrc]; simp)
      have e2 : (rc .done (some .ret)).pending = some .ret := by rw [hrc]
      rw [e2] at h2
      exact ⟨some .ret, _, h2, hstop _ pre _ (Nat.le_refl _) hSp (hbk.own hIx (by omega) hi) (hbk.put _).defs⟩
end Go.Proofs.YtekobdmlgbffnaaGreatDoor

/- config.lines$1, the iterator: its contract. -/
namespace Go.Proofs.YtekobdmlgbffnaaGreatDoor
set_option linter.unusedVariables false
set_option maxRecDepth 100000
set_option linter.unusedSimpArgs false
open Go.RowKit Go.Shelf
attribute [local go_sem] Oper.semAt_some

/-- A line: its words, where they lie, whether it has an end. -/
structure Ln where
  b : Nat
  ws : List (List UInt8)
  e : Bool
  few : ws.length ≤ 4097
  small : ∀ p ∈ ws, p.length ≤ 4096
  some_ : ws ≠ []
abbrev lcs (x : Ln) : Array Value := #[.slice (some ⟨x.b, 0, none⟩) x.ws.length x.ws.length, .bool x.e]
def wcs (ws : List (List UInt8)) : Array Value := (ws.map fun p => Value.string (bs p)).toArray
/-- What is told of it in each round. -/
def Tl (B : Nat) (x : Ln) (W : World) : Prop := B ≤ x.b ∧ Bk W x.b 9 (wcs x.ws)
theorem tl_own (B B' : Nat) : OwnFrom B' (Tl B) := fun x W W' row hs hg hr => ⟨hs.1, (hg.block x.b hs.2.lt (fun e => by
  obtain ⟨_, o, ho, hc⟩ := hr x.b e.symm
  rw [show W.heap[x.b]? = _ from hs.2] at ho; cases ho; cases hc)).trans hs.2⟩
def gL (x : Ln) : List (List UInt8) × Bool := (x.ws, x.e)
def lns (l : List UInt8) : List (List (List UInt8) × Bool) := (linesL l).map fun p => (piecesL 32 p.1, p.2)
theorem lns_nil : lns [] = [] := rfl
theorem lns_cut (l : List UInt8) (h : l ≠ []) : lns l = (piecesL 32 (cutL 10 l).1, (cutL 10 l).2.2) :: lns (cutL 10 l).2.1 := by unfold lns; rw [lines_cut l h]; rfl
theorem lns_len : ∀ l : List UInt8, (lns l).length ≤ l.length := fun l => by
  unfold lns
  rw [List.length_map]
  induction l with
  | nil => simp [linesL]
  | cons x r ih =>
    unfold linesL
    by_cases hx : x = 10
    · rw [if_pos hx, List.length_cons, List.length_cons]; omega
    · rw [if_neg hx]
      cases hl : linesL r with
      | nil => simp
      | cons q qs => rw [hl] at ih; simp only [List.length_cons] at ih ⊢; omega
def meaL : Value → Nat
  | .string s => s.size
  | _ => 0
set_option maxRecDepth 100000 in
set_option maxHeartbeats 2000000 in
theorem lines1_reads (n : Nat) (hn : 2 ≤ n) (Bb B : Nat) (s : ByteArray) (w : World) (hbox : Bk w Bb 9 #[.string s]) (hB : B ≤ w.heap.size) (hs : s.size ≤ 4096) :
    SeqReads Fence.wide n Tryz.prog 72 #[.pointer (some ⟨Bb, 0, none⟩)] lcs (Tl B) (fun u u' => u.heap.size ≤ u'.heap.size) (fun xs => xs.map gL = lns s.data.toList) (fun pre => pre.map gL <+: lns s.data.toList) 5000 w := fun lp J Jx W hW hJ hJx hY h0 => by
  refine callsIn_of_wp Tryz.func72 rfl trivial ?_ rfl
  simp only [Tryz.ntmps72, List.size_toArray, List.length_cons, List.length_nil, Nat.reduceAdd, Nat.reduceSub, Array.replicate_succ, Array.replicate_zero, List.push_toArray, List.append_toArray, List.nil_append, List.cons_append]
  have hc1 : W.cell? ⟨Bb, 0, none⟩ = some (.string s) := by rw [(hbox.below hW hbox.lt).cell]; rfl
  have HZ := Lib.hid (show B ≤ W.heap.size from Nat.le_trans hB hW.size)
  have HL := Lib.hid (show (lns s.data.toList).length ≤ 4096 from Nat.le_trans (lns_len _) hs)
  clear hbox hW
  gi_wp2
  clear hc1
  gi_loopw [3] (fun v3 wr => ∃ (pre : List Ln) (rest : List UInt8), v3 = .string (bs rest) ∧ Hid (lns s.data.toList = pre.map gL ++ lns rest) ∧ Hid (rest.length ≤ 4096) ∧ Hid (J pre wr) ∧ Hid (B ≤ wr.heap.size)) (fun v3 wr => meaL v3)
  case atStart =>
    exact ⟨[], s.data.toList, by rw [bs_of], Lib.hid rfl, Lib.hid hs, Lib.hid h0, HZ⟩
  case round =>
    obtain ⟨pre, rest, rfl, HC, HR, HJ, HZ3⟩ := hrel
    cases rest with
    | nil =>
      have he : (bs []).toList.isEmpty = true := by rw [bs_list]; rfl
      gi_wp2
      go_end0
      exact ⟨⟨_, rfl⟩, .inl ⟨pre, by rw [HC.out, lns_nil, List.append_nil], HJ.out⟩⟩
    | cons y ys =>
      have he : (bs (y :: ys)).toList.isEmpty = false := by rw [bs_list]; rfl
      have hE := HC.out
      rw [lns_cut (y :: ys) (by simp)] at hE
      have hLT := fun hm => cutL_lt 10 (y :: ys) hm
      have hsz := cutL_len 10 (y :: ys)
      have hmiss := (cutL_join 10 (y :: ys)).2
      obtain ⟨p, q, m, hc⟩ : ∃ p q m, cutL 10 (y :: ys) = (p, q, m) := ⟨_, _, _, rfl⟩
      rw [hc] at hE hLT hsz hmiss
      simp only at hE hLT hsz hmiss
      obtain ⟨R, hRR⟩ : ∃ R, bs (y :: ys) = R := ⟨_, rfl⟩
      have hRl : R.size = (y :: ys).length := by rw [← hRR, bs_size]
      have hr0 := HR.out
      have hcut := Lib.hid (fun u => cut_ok R 10 u (by rw [hRl]; omega))
      have hV : cutV 10 R = .tuple #[.string (bs p), .string (bs q), .bool m] := by unfold cutV; rw [← hRR, bs_data, hc]
      rw [hV] at hcut
      have hspl := Lib.hid (fun u => split_ok (bs p) 32 u (by rw [bs_size]; omega))
      rw [bs_data] at hspl
      have hx1 : (piecesL 32 p).length ≤ 4097 := by have := pieces_len 32 p; omega
      have hx2 : ∀ z ∈ piecesL 32 p, z.length ≤ 4096 := fun z hz => by have := pieces_small 32 p z hz; omega
      have hx3 : piecesL 32 p ≠ [] := by rw [pieces_cut]; simp
      obtain ⟨ws, hws⟩ : ∃ ws, piecesL 32 p = ws := ⟨_, rfl⟩
      rw [hws] at hE hx1 hx2 hx3 hspl
      have hlen : pre.length < 5000 := by
        have := congrArg List.length hE
        rw [List.length_append, List.length_map] at this
        have := HL.out
        omega
      have HE2 := Lib.hid (fun b => show lns s.data.toList = (pre ++ [(⟨b, ws, m, hx1, hx2, hx3⟩ : Ln)]).map gL ++ lns q by
        rw [hE, List.map_append, List.append_assoc]; rfl)
      have HYY := Lib.hid (fun (k : Nat) => (show YieldAt Fence.wide (n - 1) Tryz.prog lp #[.slice (some ⟨wr.heap.size, 0, none⟩) ws.length ws.length, .bool m] ((wr.drewN k).alloc (.cells ((ws.map fun p => Value.string (bs p)).toArray) 9)) (fun e u' =>
          (e = .returned (.bool true) ∧ J (pre ++ [(⟨wr.heap.size, ws, m, hx1, hx2, hx3⟩ : Ln)]) u' ∧ ((wr.drewN k).alloc (.cells (wcs ws) 9)).heap.size ≤ u'.heap.size) ∨ (e = .returned (.bool false) ∧ Jx (pre ++ [(⟨wr.heap.size, ws, m, hx1, hx2, hx3⟩ : Ln)]) u')) from
        hY pre (⟨wr.heap.size, ws, m, hx1, hx2, hx3⟩ : Ln) ((wr.drewN k).alloc (.cells (wcs ws) 9)) (hJ _ _ _ none (hJ _ _ (wr.drewN k) none HJ.out ⟨rfl, rfl, rfl, Nat.le_refl _, fun _ _ _ => rfl⟩ (fun r e => by cases e)) (World.grownBy_alloc (wr.drewN k) _ none) (fun r e => by cases e)) ⟨HZ3.out, Bk.new (wr.drewN k) _ _⟩ hlen))
      have HQ := Lib.hid (show (bs q).size < R.size ∧ q.length ≤ 4096 by
        rw [bs_size, hRl]
        refine ⟨?_, by omega⟩
        cases hm : m with
        | true => exact hLT hm
        | false => rw [(hmiss hm).2]; simp)
      have hn0 : 1 ≤ n := by omega
      have hn1 : 1 ≤ n - 1 := by omega
      rw [hRR] at he ⊢
      have hwl : ws.length ≤ 9223372036854775807 := by omega
      clear hE hc hV hLT hsz hmiss hRl hr0 hlen hws hRR HC HR
      gi_wp2_with (refine ⟨trivial, ?_⟩; first
        | (gi_at_call 73; refine (callsIn_wide.2 (hcut.out _)).mono ?_; rintro e w' ⟨rfl, k, rfl⟩)
        | (gi_at_call 74; refine (callsIn_wide.2 (hspl.out _)).mono ?_; rintro e w' ⟨rfl, rfl⟩; obtain ⟨fn, tmps, assign, body, hy, hR⟩ := HYY.out k))
      refine hR.mono ?_
      clear hy hR
      rintro e W2 (⟨rfl, hJ2, hsz2⟩ | ⟨rfl, hJx2⟩)
      · have HJ2 := Lib.hid hJ2
        rw [World.size_alloc] at hsz2
        have HZ4 := Lib.hid (show B ≤ W2.heap.size from Nat.le_trans HZ3.out (Nat.le_trans (Nat.le_succ _) hsz2))
        clear hJ2 hsz2
        gi_wp2
        go_roundw
        case rel => exact ⟨_, q, rfl, HE2.out _, Lib.hid HQ.out.2, HJ2, HZ4⟩
        case measure => simp only [meaL]; have := HQ.out.1; omega
      · gi_wp2
        refine bodyPost_ret (results_none rfl _ _ _) rfl ?_
        exact ⟨⟨_, rfl⟩, .inr ⟨_, by rw [HE2.out wr.heap.size]; exact List.prefix_append _ _, hJx2⟩⟩
end Go.Proofs.YtekobdmlgbffnaaGreatDoor

/- What Parse keeps: plain mathematics; a look-up of a line's kind. -/
namespace Go.Proofs.YtekobdmlgbffnaaGreatDoor
set_option linter.unusedVariables false
set_option maxRecDepth 100000
set_option linter.unusedSimpArgs false
open Go.RowKit

abbrev LnE := List (List UInt8) × Bool
def runN : Cg → Nat → List LnE → Except Nat Cg
  | c, at', [] => if at' = 0 then .error 0 else .ok c
  | c, at', (ws, e) :: r => if e = true then match lineC c (at' == 0) ws with
    | some c' => runN c' (at' + 1) r
    | none => .error at'
    else .error at'
def runQ : Cg → Nat → List LnE → Option Cg
  | c, _, [] => some c
  | c, at', (ws, e) :: r => if e = true then match lineC c (at' == 0) ws with
    | some c' => runQ c' (at' + 1) r
    | none => none
    else none
theorem runL_lns : ∀ (ls : List (List UInt8 × Bool)) (c : Cg) (at' : Nat), runL c at' ls = runN c at' (ls.map fun p => (piecesL 32 p.1, p.2))
  | [], c, at' => rfl
  | (l, e) :: r, c, at' => by
    rw [runL, List.map_cons, runN]
    cases lineC c (at' == 0) (piecesL 32 l) with
    | none => rfl
    | some d => simp only; rw [runL_lns r d (at' + 1)]
theorem parse_lns (s : ByteArray) : parseC s = runN zeroC 0 (lns s.data.toList) := runL_lns _ _ _
theorem runQ_app : ∀ (a b : List LnE) (c c' : Cg) (at' : Nat), runQ c at' a = some c' → runN c at' (a ++ b) = runN c' (at' + a.length) b
  | [], b, c, c', at', h => by injection h with h; rw [h]; rfl
  | (ws, e) :: a, b, c, c', at', h => by
    rw [runQ] at h
    rw [List.cons_append, runN]
    by_cases he : e = true
    · rw [if_pos he] at h
      rw [if_pos he]
      cases hl : lineC c (at' == 0) ws with
      | none => rw [hl] at h; cases h
      | some d =>
        rw [hl] at h
        simp only at h ⊢
        rw [runQ_app a b d c' (at' + 1) h, List.length_cons]
        congr 1; omega
    · rw [if_neg he] at h; cases h
theorem runQ_snoc : ∀ (a : List LnE) (ws : List (List UInt8)) (c c' d : Cg) (at' : Nat), runQ c at' a = some c' → lineC c' (at' + a.length == 0) ws = some d → runQ c at' (a ++ [(ws, true)]) = some d
  | [], ws, c, c', d, at', h, hl => by
    injection h with h
    subst h
    rw [List.nil_append, runQ, if_pos rfl]
    rw [show (at' == 0) = (at' + ([] : List LnE).length == 0) from rfl, hl]; rfl
  | (w, e) :: a, ws, c, c', d, at', h, hl => by
    rw [runQ] at h
    rw [List.cons_append, runQ]
    by_cases he : e = true
    · rw [if_pos he] at h
      rw [if_pos he]
      cases hl2 : lineC c (at' == 0) w with
      | none => rw [hl2] at h; cases h
      | some d2 =>
        rw [hl2] at h
        simp only at h ⊢
        refine runQ_snoc a ws d2 c' d (at' + 1) h ?_
        rw [List.length_cons] at hl
        rw [show at' + 1 + a.length = at' + (a.length + 1) by omega]
        exact hl
    · rw [if_neg he] at h; cases h
theorem run_done {l : List LnE} {c : Cg} (h : runQ zeroC 0 l = some c) : runN zeroC 0 l = if l.length = 0 then .error 0 else .ok c := by
  have := runQ_app l [] zeroC c 0 h
  rw [List.append_nil, Nat.zero_add] at this
  rw [this]; rfl
theorem run_stop {l pre : List LnE} {x : LnE} {c : Cg} (hp : pre ++ [x] <+: l) (h : runQ zeroC 0 pre = some c) (hx : x.2 = false ∨ lineC c (pre.length == 0) x.1 = none) : runN zeroC 0 l = .error pre.length := by
  obtain ⟨r, rfl⟩ := hp
  rw [List.append_assoc, runQ_app pre _ zeroC c 0 h, Nat.zero_add]
  obtain ⟨ws, e⟩ := x
  rw [List.singleton_append, runN]
  rcases hx with hx | hx
  · simp only at hx; rw [hx]; rfl
  · simp only at hx; rw [hx]; cases e <;> rfl

abbrev fnT : Value := .func (.func 68) #[] #[]
abbrev fnE : Value := .func (.func 69) #[] #[]
abbrev fnN : Value := .func (.func 70) #[] #[]
abbrev fnK : Value := .func (.func 71) #[] #[]
/-- What the map tells of a word. -/
def KD (kw : List UInt8) (many : Int) (fv : Value) (is : Bool) : Prop :=
  (kw = wTimes ∧ many = 4 ∧ fv = fnT ∧ is = true) ∨ (kw = wTenant ∧ many = 3 ∧ fv = fnE ∧ is = true) ∨ (kw = wNet ∧ many = 1 ∧ fv = fnN ∧ is = true) ∨ (kw = wToken ∧ many = 3 ∧ fv = fnK ∧ is = true) ∨
  (kw ≠ wTimes ∧ kw ≠ wTenant ∧ kw ≠ wNet ∧ kw ≠ wToken ∧ many = 0 ∧ fv = .nilFunc ∧ is = false)
theorem kd_true {kw : List UInt8} {many : Int} {fv : Value} (h : KD kw many fv true) : ∃ fi, fv = .func (.func fi) #[] #[] := by
  rcases h with ⟨_, _, h, _⟩ | ⟨_, _, h, _⟩ | ⟨_, _, h, _⟩ | ⟨_, _, h, _⟩ | ⟨_, _, _, _, _, _, h⟩
  · exact ⟨_, h⟩
  · exact ⟨_, h⟩
  · exact ⟨_, h⟩
  · exact ⟨_, h⟩
  · cases h
theorem kd_false {kw : List UInt8} {many : Int} {fv : Value} (h : KD kw many fv false) : many = 0 ∧ fv = .nilFunc := by
  rcases h with ⟨_, _, _, h⟩ | ⟨_, _, _, h⟩ | ⟨_, _, _, h⟩ | ⟨_, _, _, h⟩ | ⟨_, _, _, _, h1, h2, _⟩
  · cases h
  · cases h
  · cases h
  · cases h
  · exact ⟨h1, h2⟩
theorem bs_beq (x y : List UInt8) : (bs x == bs y) = decide (x = y) := by
  show ((bs x).data == (bs y).data) = _
  unfold bs
  simp
  rw [Bool.eq_iff_iff]; simp
theorem run_look {P : Program} {t k e : TypeId} (ht : P.underlying t = some (.map k e)) (hk : P.underlying k = some .string) (s : ByteArray) {w : World} {b : Nat} {es : Array MapEntry} {clk : Nat} (hb : Mb w b es clk) (i : Nat) (v : Value) (h : Instr.findNow .string (.string s) es.toList 0 = some (some (i, v))) :
    (Instr.lookup t (.map (some b)) (.string s) true).run P w = .ok (.tuple #[v, .bool true]) w := by
  unfold Instr.lookup
  have h1 := Go.MapKept.run_getObj_map (P := P) hb
  simp [run_underlying ht, Result.andThen, h1, run_check hk, run_find hk s _ _ h]
theorem run_look0 {P : Program} {t k e : TypeId} (ht : P.underlying t = some (.map k e)) (hk : P.underlying k = some .string) (s : ByteArray) {w : World} {b : Nat} {es : Array MapEntry} {clk : Nat} (hb : Mb w b es clk) (z : Value) (hz : (zeroValue e).run P w = .ok z w) (h : Instr.findNow .string (.string s) es.toList 0 = some none) :
    (Instr.lookup t (.map (some b)) (.string s) true).run P w = .ok (.tuple #[z, .bool false]) w := by
  unfold Instr.lookup
  have h1 := Go.MapKept.run_getObj_map (P := P) hb
  simp [run_underlying ht, Result.andThen, h1, run_check hk, run_find hk s _ _ h, hz]
theorem look_kind (kw : List UInt8) : ∃ many fv is, KD kw many fv is ∧ ∀ w b, Mb w b kindEs 4 → (Instr.lookup 66 (.map (some b)) (.string (bs kw)) true).run Tryz.prog w = .ok (.tuple #[.agg #[.int .i64 many, fv], .bool is]) w := by
  by_cases h1 : kw = wTimes
  · subst h1
    exact ⟨4, fnT, true, .inl ⟨rfl, rfl, rfl, rfl⟩, fun w b hb => run_look Tryz.underlying66 Tryz.underlying9 _ hb 0 _ rfl⟩
  by_cases h2 : kw = wTenant
  · subst h2
    exact ⟨3, fnE, true, .inr (.inl ⟨rfl, rfl, rfl, rfl⟩), fun w b hb => run_look Tryz.underlying66 Tryz.underlying9 _ hb 1 _ rfl⟩
  by_cases h3 : kw = wNet
  · subst h3
    exact ⟨1, fnN, true, .inr (.inr (.inl ⟨rfl, rfl, rfl, rfl⟩)), fun w b hb => run_look Tryz.underlying66 Tryz.underlying9 _ hb 2 _ rfl⟩
  by_cases h4 : kw = wToken
  · subst h4
    exact ⟨3, fnK, true, .inr (.inr (.inr (.inl ⟨rfl, rfl, rfl, rfl⟩))), fun w b hb => run_look Tryz.underlying66 Tryz.underlying9 _ hb 3 _ rfl⟩
  · refine ⟨0, .nilFunc, false, .inr (.inr (.inr (.inr ⟨h1, h2, h3, h4, rfl, rfl, rfl⟩))), fun w b hb => run_look0 Tryz.underlying66 Tryz.underlying9 _ hb _ (by kernel_rfl) ?_⟩
    have e1 : (bs kw == bs wTimes) = false := by rw [bs_beq]; simpa using h1
    have e2 : (bs kw == bs wTenant) = false := by rw [bs_beq]; simpa using h2
    have e3 : (bs kw == bs wNet) = false := by rw [bs_beq]; simpa using h3
    have e4 : (bs kw == bs wToken) = false := by rw [bs_beq]; simpa using h4
    simp [kindEs, Instr.findNow, Instr.sameNow, e1, e2, e3, e4]

/-- take, whatever kind the line's first word has. -/
theorem take_any {kw : List UInt8} {many : Int} {fv : Value} {is : Bool} (hk : KD kw many fv is) (hi : is = true) (u : World) (B r E : Nat) (x : Cv) (b o n cw : Nat) (L : List (List UInt8)) (h : Sc u B r E x) (hs : SmC x) (hw : Wd u B b o (L.map bs)) (hn : L.length = n) (hz : ∀ l ∈ L, l.length ≤ 4096) (hn9 : n ≤ 9223372036854775807) :
    Calls Tryz.prog 35 #[.pointer (some ⟨r, 0, none⟩), .agg #[.int .i64 many, fv], .slice (some ⟨b, o, none⟩) n cw] u (Tp u B r (readW x.cg (kw :: L))) := by
  rcases hk with ⟨rfl, rfl, rfl, _⟩ | ⟨rfl, rfl, rfl, _⟩ | ⟨rfl, rfl, rfl, _⟩ | ⟨rfl, rfl, rfl, _⟩ | ⟨_, _, _, _, _, _, rfl⟩
  · have := take_times u B r E x b o n cw L h hs hw hn hz hn9
    unfold readW
    simpa only [if_pos] using this
  · have := take_tenant u B r E x b o n cw L h hs hw hn hz hn9
    unfold readW
    simpa only [if_neg kw1, if_pos] using this
  · have := take_net u B r E x b o n cw L h hs hw hn hz hn9
    unfold readW
    simpa only [if_neg kw2, if_neg kw4, if_pos] using this
  · have := take_token u B r E x b o n cw L h hs hw hn hz hn9
    unfold readW
    simpa only [if_neg kw3, if_neg kw5, if_neg kw6, if_pos] using this
  · cases hi
theorem line_unknown {kw : List UInt8} {many : Int} {fv : Value} {is : Bool} (hk : KD kw many fv is) (hi : is = false) (c : Cg) (first : Bool) (L : List (List UInt8)) : lineC c first (kw :: L) = none := by
  rcases hk with ⟨_, _, _, rfl⟩ | ⟨_, _, _, rfl⟩ | ⟨_, _, _, rfl⟩ | ⟨_, _, _, rfl⟩ | ⟨h1, h2, h3, h4, _, _, _⟩
  · cases hi
  · cases hi
  · cases hi
  · cases hi
  · unfold lineC
    have : readW c (kw :: L) = none := by unfold readW; simp only [if_neg h1, if_neg h2, if_neg h3, if_neg h4]
    rw [this]
    split <;> rfl
theorem line_first {kw : List UInt8} (c : Cg) (first : Bool) (L : List (List UInt8)) (h : (decide (kw = wTimes) != first) = true) : lineC c first (kw :: L) = none := by
  unfold lineC
  rw [if_neg]
  intro hh
  simp only [List.head?_cons, Option.some.injEq] at hh
  rw [hh] at h
  simp at h
theorem line_take {kw : List UInt8} (c : Cg) (first : Bool) (L : List (List UInt8)) (h : (decide (kw = wTimes) != first) = false) : lineC c first (kw :: L) = okC (readW c (kw :: L)) := by
  unfold lineC
  rw [if_pos]
  simpa using h
end Go.Proofs.YtekobdmlgbffnaaGreatDoor

/- A region that draws its order, inside a round of a range over a function, at the widest fence: it goes as outside. Nothing of the program is named here. -/
namespace Go.Proofs.YtekobdmlgbffnaaGreatDoor
set_option linter.unusedVariables false
set_option maxRecDepth 100000
set_option linter.unusedSimpArgs false

section
variable {P : Program} {ops : Array Oper} {Q : Exit → Act → World → Prop} {md : Region.Mode} {lp n : Nat}

theorem callsIn_round {m : Nat} {f : FuncId} {args : Array Value} {w : World} {R : Ending → World → Prop} (h : Calls P f args w R) : CallsIn (Fence.wide.inRound lp) m P f args w R :=
  ⟨trivial, fun cs _ => let ⟨e, w', fr, r, s, x⟩ := h cs; ⟨e, w', fr, r, comesIn_wide.2 s, x⟩⟩
theorem rowsIn_round {m : Nat} {row : String} {args : Array Value} {w : World} {R : Value → World → Prop} (h : Rows P row args w R) : RowsIn (Fence.wide.inRound lp) m P row args w R :=
  fun c cs _ => let ⟨v, w', r, s⟩ := h c cs; ⟨v, w', r, stepsIn_wide.2 s⟩

def noDefer (ops : Array Oper) : Bool := ops.toList.all fun o => match o.op with | .defer _ => false | _ => true
theorem noDefer_at (h : noDefer ops = true) {i : Nat} {o : Oper} (ho : ops[i]? = some o) (c : Call) : o.op ≠ .defer c := by
  intro e
  have hm : o ∈ ops.toList := by
    have : ops.toList[i]? = some o := by rw [Array.getElem?_toList]; exact ho
    exact List.mem_of_getElem? this
  have := List.all_eq_true.1 h o hm
  rw [e] at this
  cases this

theorem wpOpIn_of (hlo : LetsOut Q → False) (hnd : noDefer ops = true) {i : Nat} {a : Act} {w : World} {K K' : Act → World → Prop} (hK : ∀ a w, K a w → K' a w) (h : wpOp P ops Q i K a w) : wpOpIn (Fence.wide.inRound lp) n P ops Q i K' a w := by
  unfold wpOp at h
  unfold wpOpIn
  cases ho : ops[i]? with
  | none => rw [ho] at h; exact hK _ _ h
  | some o =>
    rw [ho] at h
    simp only at h ⊢
    split
    · rename_i hw
      simp only [hw, if_true] at h
      rcases h with h | ⟨_, h⟩
      · unfold Oper.wp at h
        refine ⟨fun _ _ => trivial, ?_⟩
        rw [Oper.semAt_eq _ _ _ (noDefer_at hnd ho)]
        generalize (execOp a.eval o).run P w = r at *
        cases r with
        | ok x w' =>
          cases x <;> simp only [Oper.upon, Oper.uponIn] at h ⊢ <;>
            first
              | exact hK _ _ h
              | exact ⟨fun hh => absurd hh (by simp [Fence.wide, Fence.inRound]), (callsIn_round h).mono (fun e w'' he => by cases e <;> first | exact hK _ _ he | exact he)⟩
              | exact ⟨fun hh => absurd hh (by simp [Fence.wide, Fence.inRound]), (rowsIn_round h).mono (fun _ _ he => hK _ _ he)⟩
              | exact h.elim
        | halt x w' => cases x <;> simp only [Oper.upon, Oper.uponIn] at h ⊢ <;> exact h
      · exact (hlo h).elim
    · rename_i hw
      simp only [hw] at h
      exact ⟨fun _ _ => trivial, hK _ _ h⟩
theorem wpAnyIn_of (hlo : LetsOut Q → False) (hnd : noDefer ops = true) : ∀ (fuel : Nat) (listed : Array Bool) (a : Act) (w : World), wpAny P md ops Q fuel listed a w → wpAnyIn (Fence.wide.inRound lp) n P md ops Q fuel listed a w
  | 0, _, _, _, h => h
  | fuel + 1, _, _, _, h => ⟨h.1, fun i hi => wpOpIn_of hlo hnd (fun a' w' h' => wpAnyIn_of hlo hnd fuel _ a' w' h') (h.2 i hi)⟩

/-- The beginning of such a region, inside a round. -/
theorem wpIn_region_held_drew {S : World → Prop} {id : Nat} {a : Act} {w : World} (hm : P.follows .mixedOrders = true) (hnd : noDefer ops = true) (hlo : LetsOut Q → False) (hS : S w.drew)
    (h : S w.drew → wpAnyH P .any ops Q S ops.size (Array.replicate ops.size false) a w.drew) : (Code.region id ops true).wpIn (Fence.wide.inRound lp) n P Q a w :=
  wpIn_region_any hm (wpAnyIn_of hlo hnd _ _ _ _ (wpAny_of_held _ _ _ _ (h hS)))
end
end Go.Proofs.YtekobdmlgbffnaaGreatDoor
