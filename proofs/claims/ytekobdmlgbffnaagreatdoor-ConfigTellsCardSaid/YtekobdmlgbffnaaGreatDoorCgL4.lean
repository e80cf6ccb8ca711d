/- config.Parse: what its loop keeps; texts that are too long. -/
import Derived.Test.YtekobdmlgbffnaaGreatDoorG19
import Derived.ScopeJumps
import Derived.RangeFuncBox
namespace Go.Proofs.YtekobdmlgbffnaaGreatDoor
set_option linter.unusedVariables false
set_option maxRecDepth 100000
set_option linter.unusedSimpArgs false
open Go.RowKit Go.Shelf
attribute [local go_sem] Oper.semAt_some

theorem bk_stays {W W' : World} {b0 : Nat} {t : TypeId} {cs : Array Value} {row : Option Nat} {B : Nat} (h : Bk W b0 t cs) (hg : W.grownBy W' row) (hr : ∀ r, row = some r → B ≤ r ∧ ∃ o : Obj, W.heap[r]? = some o ∧ o.isCells = false) : Bk W' b0 t cs :=
  (hg.block b0 h.lt (fun e => by
    obtain ⟨_, o, ho, hc⟩ := hr b0 e.symm
    rw [show W.heap[b0]? = _ from h] at ho; cases ho; cases hc)).trans h
theorem Sc.all {u u' : World} {B r E : Nat} {x : Cv} (h : Sc u B r E x) (hk : ∀ g t cs, Bk u g t cs → Bk u' g t cs) (hsz : u.heap.size ≤ u'.heap.size) : Sc u' B r E x :=
  ⟨hk _ _ _ h.blk, h.row.keep fun g cs _ hb => hk _ _ _ hb, fun T y e => ⟨fun z hz => ⟨((h.old T y e).1 z hz).n.keep (Nat.le_refl _) (fun g cs _ hb => hk _ _ _ hb), ((h.old T y e).1 z hz).k.keep (Nat.le_refl _) (fun g cs _ hb => hk _ _ _ hb), ((h.old T y e).1 z hz).fn, ((h.old T y e).1 z hz).fk⟩, ⟨(h.old T y e).2.n.keep fun g cs _ hb => hk _ _ _ hb, (h.old T y e).2.k.keep fun g cs _ hb => hk _ _ _ hb⟩⟩, h.rB, h.BE, Nat.le_trans h.ES hsz, h.sm⟩
theorem Mb.below {w w' : World} {B b : Nat} {es : Array MapEntry} {clk : Nat} (h : Mb w b es clk) (hb : Below B w w') (hB : b < B) : Mb w' b es clk := (hb.block b hB).trans h

abbrev cz5 : Array Value := #[.int .i64 0, .int .i64 0, .int .i64 0, .int .i64 0, .slice none 0 0]
def zeroCv : Cv := ⟨0, 0, 0, 0, [], none, 0⟩

/-- Between two rounds: z is where the call's own blocks begin, k where those behind the map of kinds do. -/
structure PaI (w : World) (z k : Nat) (pre : List Ln) (W : World) : Prop where
  r0 : Bk W z 24 cz5
  r1 : Bk W (z + 1) 27 #[.int .i64 0]
  r2 : Bk W (z + 1 + 1) 3 #[.int .i64 0]
  kn : Bk W k 66 #[.map (some (z + 1 + 1 + 1 + 1))]
  mb : Mb W (z + 1 + 1 + 1 + 1) kindEs 4
  at_ : Bk W (k + 1) 3 #[.int .i64 (pre.length : Int)]
  st : ∃ E x, Sc W (k + 3) (z + 1 + 1 + 1) E x ∧ SmC x ∧ runQ zeroC 0 (pre.map gL) = some x.cg
  size : k + 3 ≤ W.heap.size
  zk : z + 5 ≤ k
  b : Below z w W
/-- Behind a round that has returned. -/
structure PaX (w : World) (z k : Nat) (pre : List Ln) (W : World) : Prop where
  at_ : ∃ ys x c, pre = ys ++ [x] ∧ Bk W z 24 cz5 ∧ Bk W (z + 1) 27 #[.int .i64 91] ∧ Bk W (z + 1 + 1) 3 #[.int .i64 (ys.length : Int)] ∧ runQ zeroC 0 (ys.map gL) = some c ∧ (x.e = false ∨ lineC c (ys.length == 0) x.ws = none)
  b : Below z w W
theorem paI_own (w : World) (z k B : Nat) (hz : z = w.heap.size) (hB : k + 3 ≤ B) : OwnFrom B (PaI w z k) := fun pre W W' row hs hg hr => by
  obtain ⟨E, x, h1, h2, h3⟩ := hs.st
  have hzk := hs.zk
  refine ⟨bk_stays hs.r0 hg hr, bk_stays hs.r1 hg hr, bk_stays hs.r2 hg hr, bk_stays hs.kn hg hr, (hg.block _ hs.mb.lt (fun e => ?_)).trans hs.mb, bk_stays hs.at_ hg hr, ⟨E, x, h1.all (fun g t cs hb => bk_stays hb hg hr) hg.size, h2, h3⟩, Nat.le_trans hs.size hg.size, hzk, ownFrom_below (by omega) (by omega) pre W W' row hs.b hg hr⟩
  have := (hr _ e.symm).1
  omega
theorem paX_own (w : World) (z k B : Nat) (hz : z = w.heap.size) (hB : k + 3 ≤ B) (hzk : z + 5 ≤ k) : OwnFrom B (PaX w z k) := fun pre W W' row hs hg hr => by
  obtain ⟨ys, x, c, e, h1, h2, h3, h4, h5⟩ := hs.at_
  exact ⟨⟨ys, x, c, e, bk_stays h1 hg hr, bk_stays h2 hg hr, bk_stays h3 hg hr, h4, h5⟩, ownFrom_below (by omega) (by omega) pre W W' row hs.b hg hr⟩

/-- What Parse leaves. -/
def PaE (s : ByteArray) (w : World) (e : Ending) (w' : World) : Prop :=
  Below w.heap.size w w' ∧ ((4096 < s.size ∧ e = .returned (.tuple #[.agg cz5, .int .i64 2, .int .i64 0])) ∨
    (s.size ≤ 4096 ∧ ((∃ n : Nat, parseC s = .error n ∧ e = .returned (.tuple #[.agg cz5, .int .i64 91, .int .i64 (n : Int)])) ∨
      ∃ x : Cv, parseC s = .ok x.cg ∧ RC w' x ∧ e = .returned (.tuple #[.agg (ccs x), .int .i64 0, .int .i64 0]))))

set_option maxRecDepth 100000 in
set_option maxHeartbeats 4000000 in
theorem parse_big (s : ByteArray) (w : World) (hs : 4096 < s.size) : Calls Tryz.prog 7 #[.string s] w (PaE s w) := by
  have h1 : (s.size : Int) > 4096 := by omega
  refine (callsIn_wide (n := 6)).1 ?_
  refine callsIn_of_wp_marks Tryz.func7 rfl trivial ?_ rfl
  simp only [Tryz.ntmps7, List.size_toArray, List.length_cons, List.length_nil, Nat.reduceAdd, Nat.reduceSub, Array.replicate_succ, Array.replicate_zero, List.push_toArray, List.append_toArray, List.nil_append, List.cons_append]
  gi_wp2
  refine ⟨.tuple #[.agg cz5, .int .i64 2, .int .i64 0], ?_, ?_⟩
  · simp [results, Tryz.f7, go_sem]
  · exact ⟨by go_grown, .inl ⟨hs, rfl⟩⟩
end Go.Proofs.YtekobdmlgbffnaaGreatDoor
