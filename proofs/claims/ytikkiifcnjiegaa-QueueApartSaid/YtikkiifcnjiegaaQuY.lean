/- Two queues side by side. -/
import Derived.Test.YtikkiifcnjiegaaQuX
namespace Go.Proofs.Ytikkiifcnjiegaa
set_option linter.unusedVariables false
set_option maxRecDepth 100000
set_option linter.unusedSimpArgs false
open Go.RowKit

theorem Sp.left {u u' : World} {G G' : List Nat} (H : List Nat) (h : Sp u u' G G') : Sp u u' (G ++ H) (G' ++ H) :=
  ⟨h.k.more fun x hx => List.mem_append_left _ hx, fun y hy => by
    rcases List.mem_append.1 hy with e | e
    · rcases h.g y e with e1 | e1
      · exact .inl (List.mem_append_left _ e1)
      · exact .inr e1
    · exact .inl (List.mem_append_right _ e)⟩
theorem Sp.right {u u' : World} {H H' : List Nat} (G : List Nat) (h : Sp u u' H H') : Sp u u' (G ++ H) (G ++ H') :=
  ⟨h.k.more fun x hx => List.mem_append_right _ hx, fun y hy => by
    rcases List.mem_append.1 hy with e | e
    · exact .inl (List.mem_append_left _ e)
    · rcases h.g y e with e1 | e1
      · exact .inl (List.mem_append_right _ e1)
      · exact .inr e1⟩
structure W2 (W u : World) (G : List Nat) (qb : Nat) (q : List Qn) (H : List Nat) (rb : Nat) (r : List Qn) : Prop where
  l : Wq W u G qb q
  r : Wq W u H rb r
  ne : ∀ y ∈ G, y ∉ H
section
variable {W u u' : World} {G G' H H' : List Nat} {qb rb : Nat} {q r q' r' : List Qn}
theorem W2.left (h : W2 W u G qb q H rb r) (s : Sp u u' G G') (k : Wq W u' G' qb q') : W2 W u' G' qb q' H rb r :=
  ⟨k, h.r.ke s.k (fun y hy hG => h.ne y hG hy) k.l, fun y hy hH => by
    rcases s.g y hy with e | e
    · exact h.ne y e hH
    · have := h.r.hi y hH; omega⟩
theorem W2.right (h : W2 W u G qb q H rb r) (s : Sp u u' H H') (k : Wq W u' H' rb r') : W2 W u' G qb q H' rb r' :=
  ⟨h.l.ke s.k (fun y hy hH => h.ne y hy hH) k.l, k, fun y hy hH => by
    rcases s.g y hH with e | e
    · exact h.ne y hy e
    · have := h.l.hi y hy; omega⟩
theorem W2.on (h : W2 W u G qb q H rb r) (hb : Below u.heap.size u u') : W2 W u' G qb q H rb r := ⟨h.l.on hb, h.r.on hb, h.ne⟩
theorem W2.hi (h : W2 W u G qb q H rb r) : ∀ y ∈ G ++ H, y < u.heap.size := fun y hy => by
  rcases List.mem_append.1 hy with e | e
  · exact h.l.hi y e
  · exact h.r.hi y e
/-- A block of the law's own turned. -/
theorem W2.set (h : W2 W u G qb q H rb r) {k : Nat} {t : TypeId} {cs : Array Value} (hk : Bz u (G ++ H) k t cs) (hW : W.heap.size ≤ k) (i : Nat) (v : Value) : W2 W (u.setCell ⟨k, i, none⟩ v) G qb q H rb r ∧ Bz (u.setCell ⟨k, i, none⟩ v) (G ++ H) k t (cs.setIfInBounds i v) := by
  have hs : Ke [k] u (u.setCell ⟨k, i, none⟩ v) := (Ke.refl _ _).set (p := ⟨k, i, none⟩) (by simp) _
  have hb : Below W.heap.size W (u.setCell ⟨k, i, none⟩ v) := h.l.l.trans (hs.below h.l.l.size (by simpa using hW))
  exact ⟨⟨h.l.ke hs (fun y hy hx => hk.n (by rw [← List.mem_singleton.1 hx]; exact List.mem_append_left _ hy)) hb, h.r.ke hs (fun y hy hx => hk.n (by rw [← List.mem_singleton.1 hx]; exact List.mem_append_right _ hy)) hb, h.ne⟩, hk.b.set i v, hk.n⟩
end
/-- QueueApart's numbers. -/
theorem ap_id (x : Int) : ∃ d : Int, 2 * x.tmod 1000 = d ∧ -2000 ≤ d ∧ d ≤ 2000 ∧ d % 2 = 0 := by
  refine ⟨_, rfl, ?_⟩
  have h1 := Int.tmod_lt_of_pos x (show (0 : Int) < 1000 by omega)
  have h2 : -1000 < x.tmod 1000 := by
    have := Int.lt_tmod_of_pos x (show (0 : Int) < 1000 by omega)
    omega
  omega
theorem wf_small {d : Int} (h1 : -3000 ≤ d) (h2 : d ≤ 3000) : WfI d := by
  have hmin : IntKind.i64.min = -9223372036854775808 := by decide
  have hmax : IntKind.i64.max = 9223372036854775807 := by decide
  show (Lit.int .i64 d).wf = true
  simp only [Lit.wf, Bool.and_eq_true, decide_eq_true_eq, hmin, hmax]
  omega
theorem wrap_small {d : Int} (h1 : -3000 ≤ d) (h2 : d ≤ 3000) : IntKind.i64.wrap d = d := by rw [IntKind.wrap_i64]; omega
end Go.Proofs.Ytikkiifcnjiegaa
