/- What vault's laws share: a vault that is kept together with the blocks around it. -/
import Derived.Test.YtijboiepockmjaaDoorG14
import Derived.Test.YtijboiepockmjaaDoorG15
import Derived.Test.YtijboiepockmjaaDoorCgG
import Derived.Test.YtijboiepockmjaaDoorCz1
namespace Go.Proofs.YtijboiepockmjaaDoor
set_option linter.unusedVariables false
set_option maxRecDepth 100000
set_option linter.unusedSimpArgs false
open Go.RowKit

theorem InCf.on {w u : World} {x : Cv} (h : InCf w x) (hb : Below w.heap.size w u) : InCf u x := ⟨h.rc.on hb, h.n, fun y hy => ⟨(h.each y hy).r.on hb, (h.each y hy).nn, (h.each y hy).nk⟩⟩
/-- A vault at v (its map at mb), the blocks of L, and what was there when the law began. -/
structure Lv (w : World) (v mb : Nat) (c : List Tn) (g : Rev) (L : List (Nat × TypeId × Array Value)) (u : World) : Prop where
  va : Va u v mb c g
  kb : ∀ b ∈ L, Bk u b.1 b.2.1 b.2.2
  l : Below w.heap.size w u
  lv : w.heap.size ≤ mb
section
variable {w u u' : World} {v mb : Nat} {c : List Tn} {g g' : Rev} {L L' : List (Nat × TypeId × Array Value)}
theorem Lv.on (h : Lv w v mb c g L u) (hb : Below u.heap.size u u') : Lv w v mb c g L u' := ⟨h.va.on hb, fun b hL => (h.kb b hL).below hb (h.kb b hL).lt, h.l.trans (hb.mono h.l.size), h.lv⟩
theorem Lv.turn (h : Lv w v mb c g L u) (h' : Va u' v mb c g') (k : Ke [mb] u u') : Lv w v mb c g' L u' := by
  obtain ⟨es, ck, he⟩ := h.va.mp.block
  exact ⟨h', fun b hL => (h.kb b hL).keM k he, h.l.trans (k.below h.l.size (fun x hx => by obtain rfl := List.mem_singleton.1 hx; exact h.lv)), h.lv⟩
theorem Lv.less (h : Lv w v mb c g L u) (hL : ∀ b ∈ L', b ∈ L) : Lv w v mb c g L' u := ⟨h.va, fun b hb => h.kb b (hL b hb), h.l, h.lv⟩
theorem Lv.new (h : Lv w v mb c g L u) (t : TypeId) (cs : Array Value) : Lv w v mb c g ((u.heap.size, t, cs) :: L) (u.alloc (.cells cs t)) := by
  have hb := (Below.refl u.heap.size u).alloc (Nat.le_refl _) (.cells cs t)
  refine ⟨h.va.on hb, fun b hL => ?_, h.l.trans (hb.mono h.l.size), h.lv⟩
  rcases List.mem_cons.1 hL with rfl | hL
  · exact Bk.new u t cs
  · exact (h.kb b hL).below hb (h.kb b hL).lt
theorem Lv.bk (h : Lv w v mb c g L u) {b : Nat} {t : TypeId} {cs : Array Value} (hL : (b, t, cs) ∈ L) : Bk u b t cs := h.kb _ hL
theorem Lv.head {b : Nat} {t : TypeId} {cs : Array Value} (h : Lv w v mb c g ((b, t, cs) :: L) u) : Bk u b t cs := h.kb _ (List.mem_cons_self ..)
theorem lv_good (h : Lv w v mb c g L u) (a b : ByteArray) (now : Int) : Calls Tryd.prog 16 #[.pointer (some ⟨v, 0, none⟩), .string a, .string b, .int .i64 now] u fun e u' => e = .returned (.bool (gdB (tkN c a b) (inR g a b) now)) ∧ Lv w v mb c g L u' :=
  (vgood_ok u v mb c g h.va a b now).mono fun e u' hh => ⟨hh.1, h.on hh.2⟩
theorem lv_want (h : Lv w v mb c g L u) (hG : Gl w) (a b n : ByteArray) (hn : n.size ≤ 140737488355328) : Calls Tryd.prog 18 #[.pointer (some ⟨v, 0, none⟩), .string a, .string b, .string n] u fun e u' => e = .returned (.string ⟨(wnB (tkN c a b) a b n).toArray⟩) ∧ Lv w v mb c g L u' :=
  (vwant_ok u v mb c g h.va (hG.below h.l hG.size) a b n hn).mono fun e u' hh => ⟨hh.1, h.on hh.2⟩
theorem lv_check (h : Lv w v mb c g L u) (hG : Gl w) (a b n p : ByteArray) (now : Int) (hn : n.size ≤ 140737488355328) (hp : p.size ≤ 1099511627776) : Calls Tryd.prog 20 #[.pointer (some ⟨v, 0, none⟩), .string a, .string b, .string n, .string p, .int .i64 now] u fun e u' => e = .returned (.int .i64 (ckI (gdB (tkN c a b) (inR g a b) now) (wnB (tkN c a b) a b n) p)) ∧ Lv w v mb c g L u' :=
  (vcheck_ok u v mb c g h.va (hG.below h.l hG.size) a b n p now hn hp).mono fun e u' hh => ⟨hh.1, h.on hh.2⟩
theorem lv_rev (h : Lv w v mb c g L u) (hg : g.length ≤ 1099511627776) (a b : ByteArray) : Calls Tryd.prog 14 #[.pointer (some ⟨v, 0, none⟩), .string a, .string b] u fun e u' => (e = .returned (.bool (rvB (tkN c a b) (inR g a b))) ∧ Lv w v mb c (rvG (tkN c a b) g a b) L u') ∧ Ke [mb] u u' :=
  (vrev_ok u v mb c g h.va hg a b).mono fun e u' hh => ⟨⟨hh.1, h.turn hh.2.1 hh.2.2⟩, hh.2.2⟩
end
theorem vnew_no {x : Cv} {w : World} (h : RC w x) (hc : cfgB x.cg = false) : ∀ u, Below w.heap.size w u → Calls Tryd.prog 12 #[.agg (ccs x)] u fun e u' => e = .returned (.pointer none) ∧ Below u.heap.size u u' := fun u hu =>
  (vnew_ok x u (h.on hu)).mono fun e u' hh => by
    obtain ⟨⟨_, h1⟩ | ⟨h1, _⟩, hb⟩ := hh
    · exact ⟨h1, hb⟩
    · rw [hc] at h1; cases h1
theorem vnew_yes {x : Cv} {w : World} (h : RC w x) (hc : cfgB x.cg = true) : ∀ u, Below w.heap.size w u → ∀ L : List (Nat × TypeId × Array Value), (∀ b ∈ L, Bk u b.1 b.2.1 b.2.2) → Calls Tryd.prog 12 #[.agg (ccs x)] u fun e u' => ∃ v mb, e = .returned (.pointer (some ⟨v, 0, none⟩)) ∧ Lv w v mb x.cg.tens [] L u' ∧ u.heap.size ≤ v ∧ u.heap.size ≤ mb ∧ Below u.heap.size u u' := fun u hu L hL =>
  (vnew_ok x u (h.on hu)).mono fun e u' hh => by
    obtain ⟨⟨h1, _⟩ | ⟨_, v, mb, h1, h2, h3, h4, h5⟩, hb⟩ := hh
    · rw [hc] at h1; cases h1
    · exact ⟨v, mb, h1, ⟨h2, fun b hb' => (hL b hb').below hb (hL b hb').lt, hu.trans (hb.mono hu.size), Nat.le_trans hu.size h4⟩, h3, h4, hb⟩
end Go.Proofs.YtijboiepockmjaaDoor
