/- CgL3, CgL4: texts of this seat, one behind the other. -/
import Derived.Test.YtfpjkedcpnmfeaaDoorM10
import Derived.Test.YtfpjkedcpnmfeaaDoorM11
import Derived.Test.YtfpjkedcpnmfeaaDoorM3
import Derived.Test.YtfpjkedcpnmfeaaDoorM4
import Derived.ScopeJumps
import Derived.RangeFuncBox
/- What Parse keeps: plain mathematics; a look-up of a line's kind. -/
namespace Go.Proofs.YtfpjkedcpnmfeaaDoor
set_option linter.unusedVariables false
set_option linter.unusedSimpArgs false
open Go.RowKit

abbrev LnE := List (List UInt8) × Bool
def runN : Cg → Nat → List LnE → Except Nat Cg
  | c, at', [] => if at' = 0 then .error 0 else .ok c
  | c, at', (ws, e) :: r => if e = true then match lineC c (at' == 0) ws with
    | some c' => runN c' (at' + 1) r
    | none => .error at'
    else .error at'
def runQ : Cg → Nat → List LnE → Option Cg
  | c, _, [] => some c
  | c, at', (ws, e) :: r => if e = true then match lineC c (at' == 0) ws with
    | some c' => runQ c' (at' + 1) r
    | none => none
    else none
theorem runL_lns : ∀ (ls : List (List UInt8 × Bool)) (c : Cg) (at' : Nat), runL c at' ls = runN c at' (ls.map fun p => (piecesL 32 p.1, p.2))
  | [], c, at' => rfl
  | (l, e) :: r, c, at' => by
    rw [runL, List.map_cons, runN]
    cases lineC c (at' == 0) (piecesL 32 l) with
    | none => rfl
    | some d => simp only; rw [runL_lns r d (at' + 1)]
theorem parse_lns (s : ByteArray) : parseC s = runN zeroC 0 (lns s.data.toList) := runL_lns _ _ _
theorem runQ_app : ∀ (a b : List LnE) (c c' : Cg) (at' : Nat), runQ c at' a = some c' → runN c at' (a ++ b) = runN c' (at' + a.length) b
  | [], b, c, c', at', h => by injection h with h; rw [h]; rfl
  | (ws, e) :: a, b, c, c', at', h => by
    rw [runQ] at h
    rw [List.cons_append, runN]
    by_cases he : e = true
    · rw [if_pos he] at h
      rw [if_pos he]
      cases hl : lineC c (at' == 0) ws with
      | none => rw [hl] at h; cases h
      | some d =>
        rw [hl] at h
        simp only at h ⊢
        rw [runQ_app a b d c' (at' + 1) h, List.length_cons]
        congr 1; omega
    · rw [if_neg he] at h; cases h
theorem runQ_snoc : ∀ (a : List LnE) (ws : List (List UInt8)) (c c' d : Cg) (at' : Nat), runQ c at' a = some c' → lineC c' (at' + a.length == 0) ws = some d → runQ c at' (a ++ [(ws, true)]) = some d
  | [], ws, c, c', d, at', h, hl => by
    injection h with h
    subst h
    rw [List.nil_append, runQ, if_pos rfl]
    rw [show (at' == 0) = (at' + ([] : List LnE).length == 0) from rfl, hl]; rfl
  | (w, e) :: a, ws, c, c', d, at', h, hl => by
    rw [runQ] at h
    rw [List.cons_append, runQ]
    by_cases he : e = true
    · rw [if_pos he] at h
      rw [if_pos he]
      cases hl2 : lineC c (at' == 0) w with
      | none => rw [hl2] at h; cases h
      | some d2 =>
        rw [hl2] at h
        simp only at h ⊢
        refine runQ_snoc a ws d2 c' d (at' + 1) h ?_
        rw [List.length_cons] at hl
        rw [show at' + 1 + a.length = at' + (a.length + 1) by omega]
        exact hl
    · rw [if_neg he] at h; cases h
theorem run_done {l : List LnE} {c : Cg} (h : runQ zeroC 0 l = some c) : runN zeroC 0 l = if l.length = 0 then .error 0 else .ok c := by
  have := runQ_app l [] zeroC c 0 h
  rw [List.append_nil, Nat.zero_add] at this
  rw [this]; rfl
theorem run_stop {l pre : List LnE} {x : LnE} {c : Cg} (hp : pre ++ [x] <+: l) (h : runQ zeroC 0 pre = some c) (hx : x.2 = false ∨ lineC c (pre.length == 0) x.1 = none) : runN zeroC 0 l = .error pre.length := by
  obtain ⟨r, rfl⟩ := hp
  rw [List.append_assoc, runQ_app pre _ zeroC c 0 h, Nat.zero_add]
  obtain ⟨ws, e⟩ := x
  rw [List.singleton_append, runN]
  rcases hx with hx | hx
  · simp only at hx; rw [hx]; rfl
  · simp only at hx; rw [hx]; cases e <;> rfl

abbrev fnT : Value := .func (.func 47) #[] #[]
abbrev fnE : Value := .func (.func 48) #[] #[]
abbrev fnN : Value := .func (.func 49) #[] #[]
abbrev fnK : Value := .func (.func 50) #[] #[]
/-- What the map tells of a word. -/
def KD (kw : List UInt8) (many : Int) (fv : Value) (is : Bool) : Prop :=
  (kw = wTimes ∧ many = 4 ∧ fv = fnT ∧ is = true) ∨ (kw = wTenant ∧ many = 3 ∧ fv = fnE ∧ is = true) ∨ (kw = wNet ∧ many = 1 ∧ fv = fnN ∧ is = true) ∨ (kw = wToken ∧ many = 3 ∧ fv = fnK ∧ is = true) ∨
  (kw ≠ wTimes ∧ kw ≠ wTenant ∧ kw ≠ wNet ∧ kw ≠ wToken ∧ many = 0 ∧ fv = .nilFunc ∧ is = false)
theorem kd_true {kw : List UInt8} {many : Int} {fv : Value} (h : KD kw many fv true) : ∃ fi, fv = .func (.func fi) #[] #[] := by
  rcases h with ⟨_, _, h, _⟩ | ⟨_, _, h, _⟩ | ⟨_, _, h, _⟩ | ⟨_, _, h, _⟩ | ⟨_, _, _, _, _, _, h⟩
  · exact ⟨_, h⟩
  · exact ⟨_, h⟩
  · exact ⟨_, h⟩
  · exact ⟨_, h⟩
  · cases h
theorem kd_false {kw : List UInt8} {many : Int} {fv : Value} (h : KD kw many fv false) : many = 0 ∧ fv = .nilFunc := by
  rcases h with ⟨_, _, _, h⟩ | ⟨_, _, _, h⟩ | ⟨_, _, _, h⟩ | ⟨_, _, _, h⟩ | ⟨_, _, _, _, h1, h2, _⟩
  · cases h
  · cases h
  · cases h
  · cases h
  · exact ⟨h1, h2⟩
theorem bs_beq (x y : List UInt8) : (bs x == bs y) = decide (x = y) := by
  show ((bs x).data == (bs y).data) = _
  unfold bs
  simp
  rw [Bool.eq_iff_iff]; simp
theorem run_look {P : Program} {t k e : TypeId} (ht : P.underlying t = some (.map k e)) (hk : P.underlying k = some .string) (s : ByteArray) {w : World} {b : Nat} {es : Array MapEntry} {clk : Nat} (hb : Mb w b es clk) (i : Nat) (v : Value) (h : Instr.findNow .string (.string s) es.toList 0 = some (some (i, v))) :
    (Instr.lookup t (.map (some b)) (.string s) true).run P w = .ok (.tuple #[v, .bool true]) w := by
  unfold Instr.lookup
  have h1 := Go.MapKept.run_getObj_map (P := P) hb
  simp [run_underlying ht, Result.andThen, h1, run_check hk, run_find hk s _ _ h]
theorem run_look0 {P : Program} {t k e : TypeId} (ht : P.underlying t = some (.map k e)) (hk : P.underlying k = some .string) (s : ByteArray) {w : World} {b : Nat} {es : Array MapEntry} {clk : Nat} (hb : Mb w b es clk) (z : Value) (hz : (zeroValue e).run P w = .ok z w) (h : Instr.findNow .string (.string s) es.toList 0 = some none) :
    (Instr.lookup t (.map (some b)) (.string s) true).run P w = .ok (.tuple #[z, .bool false]) w := by
  unfold Instr.lookup
  have h1 := Go.MapKept.run_getObj_map (P := P) hb
  simp [run_underlying ht, Result.andThen, h1, run_check hk, run_find hk s _ _ h, hz]
theorem look_kind (kw : List UInt8) : ∃ many fv is, KD kw many fv is ∧ ∀ w b, Mb w b kindEs 4 → (Instr.lookup 63 (.map (some b)) (.string (bs kw)) true).run Tryd.prog w = .ok (.tuple #[.agg #[.int .i64 many, fv], .bool is]) w := by
  by_cases h1 : kw = wTimes
  · subst h1
    exact ⟨4, fnT, true, .inl ⟨rfl, rfl, rfl, rfl⟩, fun w b hb => run_look Tryd.underlying63 Tryd.underlying9 _ hb 0 _ rfl⟩
  by_cases h2 : kw = wTenant
  · subst h2
    exact ⟨3, fnE, true, .inr (.inl ⟨rfl, rfl, rfl, rfl⟩), fun w b hb => run_look Tryd.underlying63 Tryd.underlying9 _ hb 1 _ rfl⟩
  by_cases h3 : kw = wNet
  · subst h3
    exact ⟨1, fnN, true, .inr (.inr (.inl ⟨rfl, rfl, rfl, rfl⟩)), fun w b hb => run_look Tryd.underlying63 Tryd.underlying9 _ hb 2 _ rfl⟩
  by_cases h4 : kw = wToken
  · subst h4
    exact ⟨3, fnK, true, .inr (.inr (.inr (.inl ⟨rfl, rfl, rfl, rfl⟩))), fun w b hb => run_look Tryd.underlying63 Tryd.underlying9 _ hb 3 _ rfl⟩
  · refine ⟨0, .nilFunc, false, .inr (.inr (.inr (.inr ⟨h1, h2, h3, h4, rfl, rfl, rfl⟩))), fun w b hb => run_look0 Tryd.underlying63 Tryd.underlying9 _ hb _ (by kernel_rfl) ?_⟩
    have e1 : (bs kw == bs wTimes) = false := by rw [bs_beq]; simpa using h1
    have e2 : (bs kw == bs wTenant) = false := by rw [bs_beq]; simpa using h2
    have e3 : (bs kw == bs wNet) = false := by rw [bs_beq]; simpa using h3
    have e4 : (bs kw == bs wToken) = false := by rw [bs_beq]; simpa using h4
    simp [kindEs, Instr.findNow, Instr.sameNow, e1, e2, e3, e4]

/-- take, whatever kind the line's first word has. -/
theorem take_any {kw : List UInt8} {many : Int} {fv : Value} {is : Bool} (hk : KD kw many fv is) (hi : is = true) (u : World) (B r E : Nat) (x : Cv) (b o n cw : Nat) (L : List (List UInt8)) (h : Sc u B r E x) (hs : SmC x) (hw : Wd u B b o (L.map bs)) (hn : L.length = n) (hz : ∀ l ∈ L, l.length ≤ 4096) (hn9 : n ≤ 9223372036854775807) :
    Calls Tryd.prog 27 #[.pointer (some ⟨r, 0, none⟩), .agg #[.int .i64 many, fv], .slice (some ⟨b, o, none⟩) n cw] u (Tp u B r (readW x.cg (kw :: L))) := by
  rcases hk with ⟨rfl, rfl, rfl, _⟩ | ⟨rfl, rfl, rfl, _⟩ | ⟨rfl, rfl, rfl, _⟩ | ⟨rfl, rfl, rfl, _⟩ | ⟨_, _, _, _, _, _, rfl⟩
  · have := take_times u B r E x b o n cw L h hs hw hn hz hn9
    unfold readW
    simpa only [if_pos] using this
  · have := take_tenant u B r E x b o n cw L h hs hw hn hz hn9
    unfold readW
    simpa only [if_neg kw1, if_pos] using this
  · have := take_net u B r E x b o n cw L h hs hw hn hz hn9
    unfold readW
    simpa only [if_neg kw2, if_neg kw4, if_pos] using this
  · have := take_token u B r E x b o n cw L h hs hw hn hz hn9
    unfold readW
    simpa only [if_neg kw3, if_neg kw5, if_neg kw6, if_pos] using this
  · cases hi
theorem line_unknown {kw : List UInt8} {many : Int} {fv : Value} {is : Bool} (hk : KD kw many fv is) (hi : is = false) (c : Cg) (first : Bool) (L : List (List UInt8)) : lineC c first (kw :: L) = none := by
  rcases hk with ⟨_, _, _, rfl⟩ | ⟨_, _, _, rfl⟩ | ⟨_, _, _, rfl⟩ | ⟨_, _, _, rfl⟩ | ⟨h1, h2, h3, h4, _, _, _⟩
  · cases hi
  · cases hi
  · cases hi
  · cases hi
  · unfold lineC
    have : readW c (kw :: L) = none := by unfold readW; simp only [if_neg h1, if_neg h2, if_neg h3, if_neg h4]
    rw [this]
    split <;> rfl
theorem line_first {kw : List UInt8} (c : Cg) (first : Bool) (L : List (List UInt8)) (h : (decide (kw = wTimes) != first) = true) : lineC c first (kw :: L) = none := by
  unfold lineC
  rw [if_neg]
  intro hh
  simp only [List.head?_cons, Option.some.injEq] at hh
  rw [hh] at h
  simp at h
theorem line_take {kw : List UInt8} (c : Cg) (first : Bool) (L : List (List UInt8)) (h : (decide (kw = wTimes) != first) = false) : lineC c first (kw :: L) = okC (readW c (kw :: L)) := by
  unfold lineC
  rw [if_pos]
  simpa using h
end Go.Proofs.YtfpjkedcpnmfeaaDoor

/- config.Parse: what its loop keeps; texts that are too long. -/
namespace Go.Proofs.YtfpjkedcpnmfeaaDoor
set_option linter.unusedVariables false
set_option linter.unusedSimpArgs false
open Go.RowKit Go.Shelf
attribute [local go_sem] Oper.semAt_some

theorem bk_stays {W W' : World} {b0 : Nat} {t : TypeId} {cs : Array Value} {row : Option Nat} {B : Nat} (h : Bk W b0 t cs) (hg : W.grownBy W' row) (hr : ∀ r, row = some r → B ≤ r ∧ ∃ o : Obj, W.heap[r]? = some o ∧ o.isCells = false) : Bk W' b0 t cs :=
  (hg.block b0 h.lt (fun e => by
    obtain ⟨_, o, ho, hc⟩ := hr b0 e.symm
    rw [show W.heap[b0]? = _ from h] at ho; cases ho; cases hc)).trans h
theorem Sc.all {u u' : World} {B r E : Nat} {x : Cv} (h : Sc u B r E x) (hk : ∀ g t cs, Bk u g t cs → Bk u' g t cs) (hsz : u.heap.size ≤ u'.heap.size) : Sc u' B r E x :=
  ⟨hk _ _ _ h.blk, h.row.keep fun g cs _ hb => hk _ _ _ hb, fun T y e => ⟨fun z hz => ⟨((h.old T y e).1 z hz).n.keep (Nat.le_refl _) (fun g cs _ hb => hk _ _ _ hb), ((h.old T y e).1 z hz).k.keep (Nat.le_refl _) (fun g cs _ hb => hk _ _ _ hb), ((h.old T y e).1 z hz).fn, ((h.old T y e).1 z hz).fk⟩, ⟨(h.old T y e).2.n.keep fun g cs _ hb => hk _ _ _ hb, (h.old T y e).2.k.keep fun g cs _ hb => hk _ _ _ hb⟩⟩, h.rB, h.BE, Nat.le_trans h.ES hsz, h.sm⟩
theorem Mb.below {w w' : World} {B b : Nat} {es : Array MapEntry} {clk : Nat} (h : Mb w b es clk) (hb : Below B w w') (hB : b < B) : Mb w' b es clk := (hb.block b hB).trans h

abbrev cz5 : Array Value := #[.int .i64 0, .int .i64 0, .int .i64 0, .int .i64 0, .slice none 0 0]
def zeroCv : Cv := ⟨0, 0, 0, 0, [], none, 0⟩

/-- Between two rounds: z is where the call's own blocks begin, k where those behind the map of kinds do. -/
structure PaI (w : World) (z k : Nat) (pre : List Ln) (W : World) : Prop where
  r0 : Bk W z 24 cz5
  r1 : Bk W (z + 1) 28 #[.int .i64 0]
  r2 : Bk W (z + 1 + 1) 3 #[.int .i64 0]
  kn : Bk W k 63 #[.map (some (z + 1 + 1 + 1 + 1))]
  mb : Mb W (z + 1 + 1 + 1 + 1) kindEs 4
  at_ : Bk W (k + 1) 3 #[.int .i64 (pre.length : Int)]
  st : ∃ E x, Sc W (k + 3) (z + 1 + 1 + 1) E x ∧ SmC x ∧ runQ zeroC 0 (pre.map gL) = some x.cg
  size : k + 3 ≤ W.heap.size
  zk : z + 5 ≤ k
  b : Below z w W
/-- Behind a round that has returned. -/
structure PaX (w : World) (z k : Nat) (pre : List Ln) (W : World) : Prop where
  at_ : ∃ ys x c, pre = ys ++ [x] ∧ Bk W z 24 cz5 ∧ Bk W (z + 1) 28 #[.int .i64 91] ∧ Bk W (z + 1 + 1) 3 #[.int .i64 (ys.length : Int)] ∧ runQ zeroC 0 (ys.map gL) = some c ∧ (x.e = false ∨ lineC c (ys.length == 0) x.ws = none)
  b : Below z w W
theorem paI_own (w : World) (z k B : Nat) (hz : z = w.heap.size) (hB : k + 3 ≤ B) : OwnFrom B (PaI w z k) := fun pre W W' row hs hg hr => by
  obtain ⟨E, x, h1, h2, h3⟩ := hs.st
  have hzk := hs.zk
  refine ⟨bk_stays hs.r0 hg hr, bk_stays hs.r1 hg hr, bk_stays hs.r2 hg hr, bk_stays hs.kn hg hr, (hg.block _ hs.mb.lt (fun e => ?_)).trans hs.mb, bk_stays hs.at_ hg hr, ⟨E, x, h1.all (fun g t cs hb => bk_stays hb hg hr) hg.size, h2, h3⟩, Nat.le_trans hs.size hg.size, hzk, ownFrom_below (by omega) (by omega) pre W W' row hs.b hg hr⟩
  have := (hr _ e.symm).1
  omega
theorem paX_own (w : World) (z k B : Nat) (hz : z = w.heap.size) (hB : k + 3 ≤ B) (hzk : z + 5 ≤ k) : OwnFrom B (PaX w z k) := fun pre W W' row hs hg hr => by
  obtain ⟨ys, x, c, e, h1, h2, h3, h4, h5⟩ := hs.at_
  exact ⟨⟨ys, x, c, e, bk_stays h1 hg hr, bk_stays h2 hg hr, bk_stays h3 hg hr, h4, h5⟩, ownFrom_below (by omega) (by omega) pre W W' row hs.b hg hr⟩

/-- What Parse leaves. -/
def PaE (s : ByteArray) (w : World) (e : Ending) (w' : World) : Prop :=
  Below w.heap.size w w' ∧ ((4096 < s.size ∧ e = .returned (.tuple #[.agg cz5, .int .i64 2, .int .i64 0])) ∨
    (s.size ≤ 4096 ∧ ((∃ n : Nat, parseC s = .error n ∧ e = .returned (.tuple #[.agg cz5, .int .i64 91, .int .i64 (n : Int)])) ∨
      ∃ x : Cv, parseC s = .ok x.cg ∧ RC w' x ∧ e = .returned (.tuple #[.agg (ccs x), .int .i64 0, .int .i64 0]))))

set_option maxRecDepth 100000 in
set_option maxHeartbeats 4000000 in
theorem parse_big (s : ByteArray) (w : World) (hs : 4096 < s.size) : Calls Tryd.prog 12 #[.string s] w (PaE s w) := by
  have h1 : (s.size : Int) > 4096 := by omega
  refine (callsIn_wide (n := 6)).1 ?_
  refine callsIn_of_wp_marks Tryd.func12 rfl trivial ?_ rfl
  simp only [Tryd.ntmps12, List.size_toArray, List.length_cons, List.length_nil, Nat.reduceAdd, Nat.reduceSub, Array.replicate_succ, Array.replicate_zero, List.push_toArray, List.append_toArray, List.nil_append, List.cons_append]
  gi_wp2
  refine ⟨.tuple #[.agg cz5, .int .i64 2, .int .i64 0], ?_, ?_⟩
  · simp [results, Tryd.f12, go_sem]
  · exact ⟨by go_grown, .inl ⟨hs, rfl⟩⟩
end Go.Proofs.YtfpjkedcpnmfeaaDoor
