/- TcL, TcEq, RBits: texts of this seat, one behind the other. -/
import Derived.Test.YtinbegnojfpeiaaDoorTcG
import Derived.Test.YtinbegnojfpeiaaDoorG1
import Derived.Test.YtinbegnojfpeiaaDoorG7
import Derived.Test.YtinbegnojfpeiaaDoorG3
import Derived.Test.YtinbegnojfpeiaaDoorG2
/- Contracts of the program's book of tickets with letters; rows of the law's own beside it. -/
namespace Go.Proofs.YtinbegnojfpeiaaDoor
set_option linter.unusedVariables false
set_option maxRecDepth 100000
set_option linter.unusedSimpArgs false
open Go.RowKit

section
variable {W u u' : World} {H H' : List Nat} {tb : Nat} {key : ByteArray} {b : Bt}
theorem z_new (h : Below W.heap.size W u) (key : ByteArray) (hk : key.size ≤ 140737488355328) : Calls Tryd.prog 10 #[.string key] u fun e u' => ∃ H tb, e = .returned (.pointer (some ⟨tb, 0, none⟩)) ∧ Tz W u' H tb key ⟨0, []⟩ ∧ Below u.heap.size u u' ∧ ∀ y ∈ H, u.heap.size ≤ y := tnew_ok h key hk
theorem z_issue (h : Tz W u H tb key b) (hg : Gk b) (p : Ps) (d : ByteArray) (s : ByteArray) (er : Int) (b' : Bt) (hE : issT b p (tixT key d) = (s, er, b')) (hk : key.size ≤ 3000) (hd : d.size ≤ 1099511627776) (hs2 : b.se ≤ 1000000) (hp1 : p.nm.size ≤ 140737488355328) (hp2 : p.ten.size ≤ 140737488355328) (hG : Gl W) :
    Calls Tryd.prog 18 #[.pointer (some ⟨tb, 0, none⟩), .agg #[.int .i64 p.vis, .string p.nm, .string p.ten, .int .i64 p.ep], .string d] u fun e u' => ∃ H', e = .returned (.tuple #[.string s, .int .i64 er]) ∧ Tz W u' H' tb key b' ∧ Sp u u' H H' :=
  issue_ok h p d (s, er, b') hE hg.few hk hd hg.s0 hs2 hp1 hp2 hG
theorem z_redeem (h : Tz W u H tb key b) (hg : Gk b) (s ten : ByteArray) (q : Ps) (er : Int) (b' : Bt) (hE : redT b s ten = (q, er, b')) (hs : s.size ≤ 1099511627776) :
    Calls Tryd.prog 13 #[.pointer (some ⟨tb, 0, none⟩), .string s, .string ten] u fun e u' => ∃ H', e = .returned (.tuple #[.agg #[.int .i64 q.vis, .string q.nm, .string q.ten, .int .i64 q.ep], .int .i64 er]) ∧ Tz W u' H' tb key b' ∧ Sp u u' H H' :=
  (redeem_ok h s ten (q, er, b') hE hg.few hs).mono fun e u' hh => by
    obtain ⟨H', h1, h2⟩ := hh.z
    exact ⟨H', hh.e, h1, h2⟩
theorem z_void (h : Tz W u H tb key b) (hg : Gk b) (v : Int) (r : Bool) (b' : Bt) (hE : voiT b v = (r, b')) :
    Calls Tryd.prog 16 #[.pointer (some ⟨tb, 0, none⟩), .int .i64 v] u fun e u' => ∃ H', e = .returned (.bool r) ∧ Tz W u' H' tb key b' ∧ Sp u u' H H' :=
  void_ok h v (r, b') hE hg.few
theorem z_many (h : Tz W u H tb key b) (n : Nat) (hn : b.l.length = n) :
    Calls Tryd.prog 20 #[.pointer (some ⟨tb, 0, none⟩)] u fun e u' => e = .returned (.int .i64 (n : Int)) ∧ Below u.heap.size u u' := many_ok h n hn
end
/-- The slice at A owns the rows l: since the law began, and away from the book's blocks. -/
structure Lrk {β : Type} (e : TypeId) (k : Nat) (f : β → Array Value) (W u : World) (G : List Nat) (A : Option Addr) (c : Nat) (l : List β) : Prop where
  o : Ow e k f u W.heap.size A c l
  n : ∀ g, (Value.slice A l.length c).ownBlock = some g → g ∉ G
section
variable {β : Type} {e : TypeId} {k : Nat} {f : β → Array Value} {W u u' : World} {G G' : List Nat} {A : Option Addr} {c : Nat} {l : List β}
theorem Ow.keepR {B : Nat} (h : Ow e k f u B A c l) (hk : ∀ g cs, (Value.slice A l.length c).ownBlock = some g → Bk u g e cs → Bk u' g e cs) : Ow e k f u' B A c l := by
  refine ⟨h.1, ?_⟩
  rcases h.2 with hn | ⟨g, cap, cur, hv, hg, hh, r⟩
  · exact .inl hn
  · exact .inr ⟨g, cap, cur, hv, hg, hk g cur (by rw [hv]; rfl) hh, r⟩
theorem Lrk.nil (W u : World) (G : List Nat) : Lrk e k f W u G none 0 [] := ⟨Ow.nil _ _, fun g h => by cases h⟩
theorem Lrk.lt (h : Lrk e k f W u G A c l) {g : Nat} (hg : (Value.slice A l.length c).ownBlock = some g) : W.heap.size ≤ g ∧ g < u.heap.size := by
  obtain ⟨h1, h2, _⟩ := Ow.block h.o l.length g hg
  exact ⟨h1, h2⟩
theorem Lrk.step (h : Lrk e k f W u G A c l) (s : Sp u u' G G') : Lrk e k f W u' G' A c l :=
  ⟨h.o.keepR fun g cs hg hh => hh.ke s.k (h.n g hg), fun g hg hx => by
    rcases s.g g hx with e | e
    · exact h.n g hg e
    · have := (h.lt hg).2; omega⟩
theorem Lrk.on (h : Lrk e k f W u G A c l) (hb : Below u.heap.size u u') : Lrk e k f W u' G A c l := h.step (Sp.of (Ke.of hb).nil)
/-- What turned are blocks of the type e, away from the book. -/
def Tu (e : TypeId) (W : World) (G : List Nat) (u u' : World) : Prop := ∃ K : List Nat, Ke K u u' ∧ ∀ y ∈ K, y ∉ G ∧ W.heap.size ≤ y ∧ ∃ cs, Bk u y e cs
theorem Tu.sp (t : Tu e W G u u') : ∀ {G0 : List Nat}, (∀ y ∈ G0, y ∈ G) → ∃ K, Ke K u u' ∧ ∀ y ∈ G0, y ∉ K := fun hG => by
  obtain ⟨K, k1, k2⟩ := t
  exact ⟨K, k1, fun y hy hx => (k2 y hx).1 (hG y hy)⟩
theorem Tu.bk (t : Tu e W G u u') {g : Nat} {t2 : TypeId} {cs : Array Value} (h : Bk u g t2 cs) (hne : t2 ≠ e) : Bk u' g t2 cs := by
  obtain ⟨K, k1, k2⟩ := t
  refine h.ke k1 fun hx => ?_
  obtain ⟨_, _, cs2, hc⟩ := k2 g hx
  exact bk_dist h hc hne rfl
theorem Tu.bz (t : Tu e W G u u') {g : Nat} {t2 : TypeId} {cs : Array Value} (h : Bz u G g t2 cs) (hne : t2 ≠ e) : Bz u' G g t2 cs := ⟨t.bk h.b hne, h.n⟩
theorem Tu.lr {γ : Type} {e2 : TypeId} {k2 : Nat} {f2 : γ → Array Value} {A2 : Option Addr} {c2 : Nat} {l2 : List γ} (t : Tu e W G u u') (h : Lrk e2 k2 f2 W u G A2 c2 l2) (hne : e2 ≠ e) : Lrk e2 k2 f2 W u' G A2 c2 l2 :=
  ⟨h.o.keepR fun g cs _ hh => t.bk hh hne, h.n⟩
theorem Tu.tz {tb : Nat} {key : ByteArray} {b : Bt} {H : List Nat} (t : Tu e W G u u') (h : Tz W u H tb key b) (hH : ∀ y ∈ H, y ∈ G) : Tz W u' H tb key b := by
  obtain ⟨K, k1, k2⟩ := t
  exact h.ke k1 (fun y hy hx => (k2 y hx).1 (hH y hy)) (h.l.trans (k1.below h.l.size (fun x hx => (k2 x hx).2.1)))
theorem Tu.below (t : Tu e W G u u') (hb : Below W.heap.size W u) : Below W.heap.size W u' := by
  obtain ⟨K, k1, k2⟩ := t
  exact hb.trans (k1.below hb.size (fun x hx => (k2 x hx).2.1))
/-- One is appended. -/
theorem Lrk.app {y : β} (h : Lrk e k f W u G A c l) (hG : ∀ y ∈ G, y < u.heap.size) {n : Nat} (hn : l.length = n) {t : TypeId} {cs : Array Value} {g c2 : Nat} {w' : World}
    (h1 : Ow e k f w' W.heap.size (some ⟨g, 0, none⟩) c2 (l ++ [y])) (h2 : (u.alloc (.cells cs t)).grownBy w' (Value.slice A n c).ownBlock) (h3 : (Value.slice A n c).ownBlock = some g ∨ g = (u.alloc (.cells cs t)).heap.size) :
    Lrk e k f W w' G (some ⟨g, 0, none⟩) c2 (l ++ [y]) ∧ Tu e W G u w' := by
  subst hn
  have hk0 : Ke [] u (u.alloc (.cells cs t)) := (Ke.refl _ _).alloc _
  refine ⟨⟨h1, fun g2 hg2 => ?_⟩, ?_⟩
  · simp [Value.ownBlock] at hg2
    subst hg2
    rcases h3 with e | e
    · exact h.n g e
    · rw [World.size_alloc] at e
      exact fun hx => by have := hG g hx; omega
  · cases ho : (Value.slice A l.length c).ownBlock with
    | none =>
      rw [ho] at h2
      exact ⟨[], hk0.trans (Ke.grown0 h2), fun y hy => by cases hy⟩
    | some g0 =>
      rw [ho] at h2
      refine ⟨[g0], (hk0.nil).trans (Ke.grown h2), fun y hy => ?_⟩
      rw [List.mem_singleton.1 hy]
      obtain ⟨h4, _, cs0, hb0⟩ := Ow.block h.o l.length g0 ho
      exact ⟨h.n g0 ho, h4, cs0, hb0⟩
theorem Lrk.rw_ (hf : ∀ x, (f x).size = k) (h : Lrk e k f W u G A c l) : Rw k f u A l := Ow.rw_ hf h.o
end
theorem roTS : Ro Tryd.prog 29 9 1 16 tsv := ⟨Tryd.underlying29, (by
  obtain ⟨i, h1, h2, h3, h4⟩ := info_parts (show (Tryd.prog.info? 9).map (fun i => (i.zero, i.size, i.bytes)) = some (some (.string ByteArray.empty), 1, 16) by kernel_rfl)
  exact ⟨i, _, h1, h2, h3, h4, rfl⟩), by omega, fun _ => rfl, (fun x u hu => by simp at hu; subst hu; rfl), by omega⟩
theorem roTP : Ro Tryd.prog 46 31 4 48 pcs := ⟨Tryd.underlying46, (by
  obtain ⟨i, h1, h2, h3, h4⟩ := info_parts (show (Tryd.prog.info? 31).map (fun i => (i.zero, i.size, i.bytes)) = some (some (.agg #[.int .i64 0, .string ByteArray.empty, .string ByteArray.empty, .int .i64 0]), 4, 48) by kernel_rfl)
  exact ⟨i, _, h1, h2, h3, h4, rfl⟩), by omega, fun _ => rfl, (fun x u hu => by simp at hu; rcases hu with rfl | rfl | rfl | rfl <;> rfl), by omega⟩
abbrev tbv (x : Bool) : Array Value := #[.bool x]
theorem roTB : Ro Tryd.prog 47 4 1 1 tbv := ⟨Tryd.underlying47, (by
  obtain ⟨i, h1, h2, h3, h4⟩ := info_parts (show (Tryd.prog.info? 4).map (fun i => (i.zero, i.size, i.bytes)) = some (some (.bool false), 1, 1) by kernel_rfl)
  exact ⟨i, _, h1, h2, h3, h4, rfl⟩), by omega, fun _ => rfl, (fun x u hu => by simp at hu; subst hu; rfl), by omega⟩
end Go.Proofs.YtinbegnojfpeiaaDoor

/- Passes that are held against one another. -/
namespace Go.Proofs.YtinbegnojfpeiaaDoor
set_option linter.unusedVariables false
set_option maxRecDepth 100000
set_option linter.unusedSimpArgs false
open Go.RowKit

abbrev pca (p : Ps) : Array Value := #[.int .i64 p.vis, .string p.nm, .string p.ten, .int .i64 p.ep]
def eqP (x y : Ps) : Bool := (x.vis == y.vis) && (x.nm.toList == y.nm.toList) && (x.ten.toList == y.ten.toList) && (x.ep == y.ep)
theorem nm_eq {a b : ByteArray} (h : a.toList = b.toList) : a = b := (nmQ_iff a b).1 (by unfold nmQ; rw [h]; simp)
theorem eqP_iff (x y : Ps) : eqP x y = true ↔ x = y := by
  unfold eqP
  simp only [Bool.and_eq_true, beq_iff_eq]
  constructor
  · rintro ⟨⟨⟨h1, h2⟩, h3⟩, h4⟩
    cases x; cases y
    simp only at h1 h2 h3 h4
    rw [h1, nm_eq h2, nm_eq h3, h4]
  · rintro rfl
    exact ⟨⟨⟨rfl, rfl⟩, rfl⟩, rfl⟩
theorem eqP_same (x : Ps) : eqP x x = true := (eqP_iff x x).2 rfl
set_option maxRecDepth 100000 in
set_option maxHeartbeats 2000000 in
theorem eqp_run (x y : Ps) (p q : Operand) (w : World) : ((do eqGuard .eql 31 p q (.agg (pca x)) (.agg (pca y)); binOp .eql 31 (.agg (pca x)) (.agg (pca y))) : Sem Value).run Tryd.prog w = .ok (.bool (eqP x y)) w := by
  obtain ⟨k, a, b, n⟩ := x
  obtain ⟨k', a', b', n'⟩ := y
  unfold eqP
  go_simp
  repeat' split
  all_goals simp_all
set_option maxRecDepth 100000 in
set_option maxHeartbeats 2000000 in
theorem nep_run (x y : Ps) (p q : Operand) (w : World) : ((do eqGuard .neq 31 p q (.agg (pca x)) (.agg (pca y)); binOp .neq 31 (.agg (pca x)) (.agg (pca y))) : Sem Value).run Tryd.prog w = .ok (.bool (!eqP x y)) w := by
  obtain ⟨k, a, b, n⟩ := x
  obtain ⟨k', a', b', n'⟩ := y
  unfold eqP
  go_simp
  repeat' split
  all_goals simp_all
theorem yieldsIf_nep {ops : Array Oper} {S : World → Prop} {oi : Oper} {a : Act} (hw : Region.wanted oi (yielded ops a.tmps) = true) (p q : Operand) (d : TypeId) (ho : oi.op = .binOp .neq 31 p q d) (x y : Ps) (hx : a.eval p = .agg (pca x)) (hy : a.eval q = .agg (pca y)) : YieldsIf Tryd.prog ops S oi (.bool (!eqP x y)) a :=
  .inl ⟨hw, fun w hw' => by
    have h1 := nep_run x y p q w
    unfold execOp
    simp only [ho, hx, hy]
    rw [Sem.run_bind, h1]
    rfl⟩
theorem wpList_eqp {ops : Array Oper} {Q : Exit → Act → World → Prop} {a : Act} {w : World} {rest : List Oper} {o : Oper} (hw : Region.wanted o (yielded ops a.tmps) = true) (p q : Operand) (d : TypeId) (ho : o.op = .binOp .eql 31 p q d) (x y : Ps) (hx : a.eval p = .agg (pca x)) (hy : a.eval q = .agg (pca y))
    (h : wpList Tryd.prog ops Q rest (a.put o.dst (.bool (eqP x y))) w) : wpList Tryd.prog ops Q (o :: rest) a w :=
  wpList_wanted hw fun K hK => by
    have h1 := eqp_run x y p q w
    unfold Oper.wp execOp
    simp only [ho, hx, hy]
    rw [Sem.run_bind, h1]
    exact hK _ _ h
theorem wpList_nep {ops : Array Oper} {Q : Exit → Act → World → Prop} {a : Act} {w : World} {rest : List Oper} {o : Oper} (hw : Region.wanted o (yielded ops a.tmps) = true) (p q : Operand) (d : TypeId) (ho : o.op = .binOp .neq 31 p q d) (x y : Ps) (hx : a.eval p = .agg (pca x)) (hy : a.eval q = .agg (pca y))
    (h : wpList Tryd.prog ops Q rest (a.put o.dst (.bool (!eqP x y))) w) : wpList Tryd.prog ops Q (o :: rest) a w :=
  wpList_wanted hw fun K hK => by
    have h1 := nep_run x y p q w
    unfold Oper.wp execOp
    simp only [ho, hx, hy]
    rw [Sem.run_bind, h1]
    exact hK _ _ h
end Go.Proofs.YtinbegnojfpeiaaDoor

/- Words turned: the document's own turn, great, small. -/
namespace Go.Proofs.YtinbegnojfpeiaaDoor
set_option linter.unusedVariables false
set_option maxRecDepth 100000
set_option linter.unusedSimpArgs false
open Go.RowKit

/-! The document's own. -/
theorem turn_ok (x n : Nat) (w : World) (hx : x < 4294967296) (h1 : 1 ≤ n) (h2 : n ≤ 31) :
    Calls Tryd.prog 63 #[wd x, .int .i64 n] w fun e w' => e = .returned (wd (rotr x n)) ∧ ∃ m, w' = w.drewN m := by
  obtain ⟨m, hm⟩ : ∃ m, n + m = 32 := ⟨32 - n, by omega⟩
  have hw2 : wrap64 (32 - (n : Int)) = (m : Int) := by unfold wrap64; omega
  have hw : IntKind.i64.wrap (32 - (n : Int)) = (m : Int) := by rw [IntKind.wrap_i64]; omega
  have e1 : (min n 32 : Nat) = n := by omega
  have e2 : (min m 32 : Nat) = m := by omega
  have e3 : (x : Int) * 2 ^ m % 4294967296 = ((wshl x m : Nat) : Int) := v_shl x m
  have e4 : (x : Int) / 2 ^ n = ((wshr x n : Nat) : Int) := w_shr x n hx
  have hO : ∀ x y : Nat, bits .or .u32 (x : Int) (y : Int) = ((wor x y : Nat) : Int) := w_or
  go_enter Tryd.func63, Tryd.ntmps63
  go_wp2_with fail
  go_quiet (fail)
  go_wp2_with fail
  go_ret
  have e5 : m = 32 - n := by omega
  rw [rotr, ← e5]
  exact ⟨rfl, _, rfl⟩

theorem rgreat_ok (x a b c : Nat) (w : World) (hx : x < 4294967296) (ha : 1 ≤ a ∧ a ≤ 31) (hb : 1 ≤ b ∧ b ≤ 31) (hc : 1 ≤ c ∧ c ≤ 31) :
    Calls Tryd.prog 56 #[wd x, .int .i64 a, .int .i64 b, .int .i64 c] w fun e w' => e = .returned (wd (great x a b c)) ∧ ∃ m, w' = w.drewN m := by
  have hX : ∀ x y : Nat, bits .xor .u32 (x : Int) (y : Int) = ((wxor x y : Nat) : Int) := w_xor
  go_enter Tryd.func56, Tryd.ntmps56
  go_wp2_with fail
  refine (turn_ok x a _ hx ha.1 ha.2).mono ?_
  rintro e w1 ⟨rfl, m1, rfl⟩
  go_wp2_with fail
  refine (turn_ok x b _ hx hb.1 hb.2).mono ?_
  rintro e w2 ⟨rfl, m2, rfl⟩
  go_wp2_with fail
  refine (turn_ok x c _ hx hc.1 hc.2).mono ?_
  rintro e w3 ⟨rfl, m3, rfl⟩
  go_wp2_with fail
  go_ret
  exact ⟨rfl, _, rfl⟩

theorem rsmall_ok (x a b c : Nat) (w : World) (hx : x < 4294967296) (ha : 1 ≤ a ∧ a ≤ 31) (hb : 1 ≤ b ∧ b ≤ 31) (hc : 1 ≤ c ∧ c ≤ 31) :
    Calls Tryd.prog 62 #[wd x, .int .i64 a, .int .i64 b, .int .i64 c] w fun e w' => e = .returned (wd (small x a b c)) ∧ ∃ m, w' = w.drewN m := by
  have hX : ∀ x y : Nat, bits .xor .u32 (x : Int) (y : Int) = ((wxor x y : Nat) : Int) := w_xor
  have hS : (x : Int) / 2 ^ c = ((wshr x c : Nat) : Int) := w_shr x c hx
  have hm : (min c 32 : Nat) = c := by omega
  go_enter Tryd.func62, Tryd.ntmps62
  go_wp2_with fail
  go_quiet (first
    | (go_at_call_of 63 (Value.int .i64 (a : Int)); exact Calls.quiet_of (turn_ok x a _ hx ha.1 ha.2))
    | (go_at_call_of 63 (Value.int .i64 (b : Int)); exact Calls.quiet_of (turn_ok x b _ hx hb.1 hb.2)))
  go_wp2_with fail
  go_ret
  exact ⟨rfl, _, rfl⟩
end Go.Proofs.YtinbegnojfpeiaaDoor
