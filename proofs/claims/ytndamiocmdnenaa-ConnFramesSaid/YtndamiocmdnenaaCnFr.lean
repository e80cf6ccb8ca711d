/- Beside a table of connections: rows of slices that it gave, and a row of bytes; frames that come in pieces. (Written by gen_cnframes.py.) -/
import Derived.Test.YtndamiocmdnenaaCnOne
import Derived.Test.YtndamiocmdnenaaFrLib
import Derived.Test.YtndamiocmdnenaaFr5a
import Derived.Maps.AppendAt
namespace Go.Proofs.Ytndamiocmdnenaa
set_option linter.unusedVariables false
set_option maxRecDepth 100000
set_option linter.unusedSimpArgs false
open Go.RowKit

def owB (A : Option Addr) : List Nat := (Value.slice A 0 0).ownBlock.toList
theorem owB_mem {A : Option Addr} {n c g : Nat} : g ∈ owB A ↔ (Value.slice A n c).ownBlock = some g := by
  unfold owB
  rw [Option.mem_toList]
  cases A <;> exact Iff.rfl
theorem row_ke {u u' : World} {B : Nat} {e : TypeId} {z n : Nat} {v : Value} {xs : List Value} {L : List Nat} (h : u.ownsRow B e z v n xs) (k : Ke L u u') (hL : ∀ g, v.ownBlock = some g → g ∉ L) : u'.ownsRow B e z v n xs := by
  refine ⟨h.1, ?_⟩
  rcases h.2 with hn | ⟨g, cap, cur, hv, hb, hh, r⟩
  · exact .inl hn
  · exact .inr ⟨g, cap, cur, hv, hb, (show Bk u g e cur from hh).ke k (hL g (by rw [hv]; rfl)), r⟩
theorem row_at {u : World} {B : Nat} {e : TypeId} {z n : Nat} {v : Value} {xs : List Value} (h : u.ownsRow B e z v n xs) : ∃ A c, v = .slice A n c ∧ (A = none → n = 0 ∧ c = 0) ∧ n ≤ c ∧ c ≤ 9223372036854775807 ∧ ∀ g ∈ owB A, B ≤ g ∧ ∃ cs, Bk u g e cs := by
  rcases h.2 with ⟨hv, h0⟩ | ⟨g, cap, cur, hv, hb, hh, hn, hm, _⟩
  · exact ⟨none, 0, by rw [hv, h0], fun _ => ⟨h0, rfl⟩, by omega, by omega, fun g hg => by cases hg⟩
  · refine ⟨_, _, hv, (fun e => by cases e), hn, by unfold maxLen at hm; omega, fun g2 hg => ?_⟩
    have h1 : g2 = g := by simpa [owB, Value.ownBlock] using hg
    subst h1
    exact ⟨hb, cur, hh⟩
/-- A slice of bytes among others: away from the blocks F. -/
def E3 (u : World) (F : List Nat) (v : Value) (l : List UInt8) : Prop := ∃ A c, v = .slice A l.length c ∧ l.length ≤ c ∧ c ≤ 9223372036854775807 ∧ (A = none → l.length = 0 ∧ c = 0) ∧ Rf u F A l
theorem E3.step {u u' : World} {F F' : List Nat} {v : Value} {l : List UInt8} (h : E3 u F v l) (s : Sp u u' F F') : E3 u' F' v l := by
  obtain ⟨A, c, h1, h2, h3, h4, h5⟩ := h
  exact ⟨A, c, h1, h2, h3, h4, h5.step s⟩
theorem E3.el {u : World} {F : List Nat} {v : Value} {l : List UInt8} (h : E3 u F v l) : ∃ A c, v = .slice A l.length c ∧ El u u.heap.size A c l := by
  obtain ⟨A, c, h1, h2, h3, h4, h5⟩ := h
  exact ⟨A, c, h1, Rb.el h5.rb (Nat.le_refl _) h2 h3 h4⟩
def Es3 (u : World) (F : List Nat) : List Value → List (List UInt8) → Prop
  | [], [] => True
  | v :: vs, l :: L => E3 u F v l ∧ Es3 u F vs L
  | _, _ => False
theorem Es3.step {u u' : World} {F F' : List Nat} (s : Sp u u' F F') : ∀ {vs : List Value} {L : List (List UInt8)}, Es3 u F vs L → Es3 u' F' vs L
  | [], [], _ => trivial
  | v :: vs, l :: L, ⟨h, k⟩ => ⟨h.step s, Es3.step s k⟩
  | [], _ :: _, h => h.elim
  | _ :: _, [], h => h.elim
theorem Es3.snoc {u : World} {F : List Nat} {x : Value} {y : List UInt8} (hx : E3 u F x y) : ∀ {vs : List Value} {L : List (List UInt8)}, Es3 u F vs L → Es3 u F (vs ++ [x]) (L ++ [y])
  | [], [], _ => ⟨hx, trivial⟩
  | v :: vs, l :: L, ⟨h, k⟩ => ⟨h, Es3.snoc hx k⟩
  | [], _ :: _, h => h.elim
  | _ :: _, [], h => h.elim
theorem Es3.els {u : World} {F : List Nat} : ∀ {vs : List Value} {L : List (List UInt8)}, Es3 u F vs L → Els u u.heap.size vs L
  | [], [], _ => trivial
  | v :: vs, l :: L, ⟨h, k⟩ => ⟨h.el, Es3.els k⟩
  | [], _ :: _, h => h.elim
  | _ :: _, [], h => h.elim
/-- The law's own rows: slices of bytes got, and bytes all; away from the blocks G. -/
structure Gwf (W u : World) (G : List Nat) (A9 : Option Addr) (c9 : Nat) (got : List (List UInt8)) (A0 : Option Addr) (c0 : Nat) (all : List UInt8) : Prop where
  r : ∃ vs, u.ownsRow W.heap.size 28 1 (.slice A9 got.length c9) got.length vs ∧ Es3 u (owB A9 ++ (owB A0 ++ G)) vs got
  n9 : ∀ g ∈ owB A9, g ∉ G
  b : OB u W.heap.size 5 A0 c0 all
  n0 : ∀ g ∈ owB A0, g ∉ G
section
variable {W u u' : World} {G G' : List Nat} {A9 A0 : Option Addr} {c9 c0 : Nat} {got : List (List UInt8)} {all : List UInt8}
theorem Gwf.nil (W u : World) (G : List Nat) : Gwf W u G none 0 [] none 0 [] := ⟨⟨[], World.ownsRow_nil u _ _ 1, trivial⟩, (fun g h => by cases h), OB.nil _ _ _, (fun g h => by cases h)⟩
theorem slc {A A' : Option Addr} {n n' c c' : Nat} (h : Value.slice A n c = Value.slice A' n' c') : A = A' ∧ n = n' ∧ c = c' := by injection h with h1 h2 h3; exact ⟨h1, h2, h3⟩
theorem Gwf.k9 (h : Gwf W u G A9 c9 got A0 c0 all) : (A9 = none → got.length = 0 ∧ c9 = 0) ∧ got.length ≤ c9 ∧ c9 ≤ 9223372036854775807 ∧ ∀ g ∈ owB A9, W.heap.size ≤ g ∧ ∃ cs, Bk u g 28 cs := by
  obtain ⟨vs, h1, _⟩ := h.r
  obtain ⟨A, c, e, k⟩ := row_at h1
  obtain ⟨e1, _, e3⟩ := slc e
  subst e1; subst e3
  exact k
theorem Gwf.k0 (h : Gwf W u G A9 c9 got A0 c0 all) : (A0 = none → all.length = 0 ∧ c0 = 0) ∧ all.length ≤ c0 ∧ c0 ≤ 9223372036854775807 ∧ ∀ g ∈ owB A0, W.heap.size ≤ g ∧ ∃ cs, Bk u g 5 cs := by
  obtain ⟨A, c, e, k⟩ := row_at h.b
  obtain ⟨e1, _, e3⟩ := slc e
  subst e1; subst e3
  exact k
theorem Gwf.hi (h : Gwf W u G A9 c9 got A0 c0 all) (hG : ∀ y ∈ G, y < u.heap.size) : ∀ y ∈ owB A9 ++ (owB A0 ++ G), y < u.heap.size := fun y hy => by
  rcases List.mem_append.1 hy with e | e
  · obtain ⟨_, cs, hk⟩ := h.k9.2.2.2 y e
    exact hk.lt
  · rcases List.mem_append.1 e with e | e
    · obtain ⟨_, cs, hk⟩ := h.k0.2.2.2 y e
      exact hk.lt
    · exact hG y e
theorem Gwf.step (h : Gwf W u G A9 c9 got A0 c0 all) (s : Sp u u' G G') : Gwf W u' G' A9 c9 got A0 c0 all := by
  obtain ⟨vs, h1, h2⟩ := h.r
  refine ⟨⟨vs, row_ke h1 s.k (fun g hg => h.n9 g (owB_mem.2 hg)), h2.step ((s.right (owB A0)).right (owB A9))⟩, fun g hg hx => ?_, row_ke h.b s.k (fun g hg => h.n0 g (owB_mem.2 hg)), fun g hg hx => ?_⟩
  · rcases s.g g hx with e | e
    · exact h.n9 g hg e
    · obtain ⟨_, cs, hk⟩ := h.k9.2.2.2 g hg; have := hk.lt; omega
  · rcases s.g g hx with e | e
    · exact h.n0 g hg e
    · obtain ⟨_, cs, hk⟩ := h.k0.2.2.2 g hg; have := hk.lt; omega
theorem Gwf.on (h : Gwf W u G A9 c9 got A0 c0 all) (hb : Below u.heap.size u u') : Gwf W u' G A9 c9 got A0 c0 all := h.step (Sp.of (Ke.of hb).nil)
theorem Gwf.fin (h : Gwf W u G A9 c9 got A0 c0 all) : Rl u u.heap.size A9 got := by
  obtain ⟨vs, h1, h2⟩ := h.r
  exact OL.rl (B := W.heap.size) (c := c9) ⟨vs, h1, h2.els⟩
/-- Only one block has turned, that was the law's own. -/
def Gs (W u w' : World) (G : List Nat) : Prop := ∃ K, Ke K u w' ∧ ∀ y ∈ K, y ∉ G ∧ W.heap.size ≤ y
theorem Gs.z {tb : Nat} {t : Tc} (h : Gs W u u' G) (hz : Zc W u G tb t) : Zc W u' G tb t := by
  obtain ⟨K, k1, k2⟩ := h
  exact hz.ke k1 (fun y hy hx => (k2 y hx).1 hy) (hz.l.trans (k1.below hz.l.size (fun x hx => (k2 x hx).2)))
theorem gr_ke {v : Value} {A : Option Addr} {n c : Nat} (hv : v = .slice A n c) (hg : u.grownBy u' v.ownBlock) : Ke (owB A) u u' := by
  subst hv
  cases A with
  | none => exact Ke.grown0 hg
  | some a => exact Ke.grown hg
theorem new_mem {v v' : Value} {A A' : Option Addr} {n c n' c' : Nat} (hv : v = .slice A n c) (hv' : v' = .slice A' n' c') (hat : v'.ownBlock = v.ownBlock ∨ v'.ownBlock = some u.heap.size) : ∀ g ∈ owB A', g ∈ owB A ∨ g = u.heap.size := fun g hg => by
  subst hv; subst hv'
  rcases hat with e | e
  · exact .inl (owB_mem.2 (e.symm.trans (owB_mem.1 hg)))
  · have := (owB_mem (n := n') (c := c')).1 hg
    rw [e] at this
    injection this with this
    exact .inr this.symm
theorem other_ty {g : Nat} {s e : TypeId} {cs cs' : Array Value} (h : Bk u g s cs) (k : Bk u g e cs') (hne : s ≠ e) : False := by
  have h1 : u.heap[g]? = some (.cells cs s (0, 0)) := h
  have h2 : u.heap[g]? = some (.cells cs' e (0, 0)) := k
  rw [h1] at h2
  injection h2 with h2
  injection h2 with _ h2
  exact hne h2
/-- Bytes more. -/
theorem wp_gb {ops : Array Oper} {rest : List Oper} {o : Oper} {a : Act} {Q : Exit → Act → World → Prop} (hgd : o.guard = none) (s x : Operand)
    (ho : o.op = .call { callee := .builtin .append, args := #[s, x], argTypes := #[28, 28] }) (n : Nat) (hs : a.eval s = .slice A0 n c0) (hn : all.length = n) (h : Gwf W u G A9 c9 got A0 c0 all) (hG : ∀ y ∈ G, y < u.heap.size)
    (k : List UInt8) (A' : Option Addr) (m c' : Nat) (hx : a.eval x = .slice A' m c') (hm : k.length = m) (hnil : A' = none → m = 0 ∧ c' = 0) (hR : Rb u u.heap.size A' k) (hW : W.heap.size ≤ u.heap.size) (hlen : n + m ≤ 1048576) (n' : Nat) (hn' : n + m = n')
    (hK : ∀ A2 c2 w', Hid (Gwf W w' G A9 c9 got A2 c2 (all ++ k)) → Hid (Gs W u w' G) → wpList Try.prog ops Q rest (a.put o.dst (.slice A2 n' c2)) w') : wpList Try.prog ops Q (o :: rest) a u := by
  obtain ⟨i0, hi1, hz0, hs0, hb0⟩ := info_parts frbytesInfo
  cases A' with
  | none =>
    obtain ⟨rfl, rfl⟩ := hnil rfl
    have hk : k = [] := List.eq_nil_of_length_eq_zero hm
    subst hk
    subst hn
    refine wpList_append_own_none hgd s x 28 ho W.heap.size 5 i0 1 Try.underlying28 hi1 _ all.length (all.map u8) hs h.b hx ?_
    have := hK A0 c0 u (Lib.hid (by rw [List.append_nil]; exact h)) (Lib.hid ⟨[], Ke.refl _ _, fun y hy => by cases hy⟩)
    subst hn'
    exact this
  | some ad =>
    subst hn; subst hm; subst hn'
    have hlen' : (all ++ k).length = all.length + k.length := List.length_append
    refine wpList_append_own_at u hgd s x 28 ho W.heap.size 5 i0 (.int .u8 0) 1 1 Try.underlying28 hi1 hz0 hs0 hb0 rfl (by decide) _ all.length (all.map u8) hs h.b ad k.length c' (k.map u8) hx (by simp) ?_ ?_ (by unfold maxLen; omega) (by omega) hW ?_
    · intro j v hv
      have hj : j < k.length := by
        rcases Nat.lt_or_ge j k.length with h1 | h1
        · exact h1
        · rw [List.getElem?_eq_none (by simpa using h1)] at hv; cases hv
      rcases hR with h0 | ⟨b, off, e1, _, hc⟩
      · subst h0; simp at hj
      · injection e1 with e1
        subst e1
        rw [add_plain, hc j hj]
        simp [hj] at hv
        exact congrArg some hv
    · intro v hv
      obtain ⟨b, _, rfl⟩ := List.mem_map.1 hv
      rfl
    · intro v' w' hown' hg _ hat
      obtain ⟨A2, c2, rfl, _, _, _, hb2⟩ := row_at hown'
      have k1 := gr_ke rfl hg
      have hm2 := new_mem (u := u) rfl rfl hat
      have hsp : Sp u w' (owB A9 ++ (owB A0 ++ G)) (owB A9 ++ (owB A2 ++ G)) := ⟨k1.more (fun y hy => List.mem_append_right _ (List.mem_append_left _ hy)), fun y hy => by
        rcases List.mem_append.1 hy with e | e
        · exact .inl (List.mem_append_left _ e)
        · rcases List.mem_append.1 e with e | e
          · rcases hm2 y e with e | e
            · exact .inl (List.mem_append_right _ (List.mem_append_left _ e))
            · exact .inr (by omega)
          · exact .inl (List.mem_append_right _ (List.mem_append_right _ e))⟩
      obtain ⟨vs, h1, h2⟩ := h.r
      refine hK A2 c2 w' (Lib.hid ⟨⟨vs, row_ke h1 k1 (fun g hg hx => ?_), h2.step hsp⟩, h.n9, ?_, fun g hg hx => ?_⟩) (Lib.hid ⟨_, k1, fun y hy => ⟨h.n0 y hy, (h.k0.2.2.2 y hy).1⟩⟩)
      · obtain ⟨_, cs, b1⟩ := h.k9.2.2.2 g (owB_mem.2 hg)
        obtain ⟨_, cs', b2⟩ := h.k0.2.2.2 g hx
        exact other_ty b1 b2 (by decide)
      · unfold OB
        rw [hlen', List.map_append]
        exact hown'
      · rcases hm2 g hg with e | e
        · exact h.n0 g e hx
        · have := hG g hx; omega
/-- One slice more. -/
theorem wp_gx {ops : Array Oper} {rest : List Oper} {o : Oper} {a : Act} {Q : Exit → Act → World → Prop} (hgd : o.guard = none) (s x : Operand)
    (ho : o.op = .call { callee := .builtin .append, args := #[s, x], argTypes := #[45, 45] }) (n : Nat) (hs : a.eval s = .slice A9 n c9) (hn : got.length = n) (h : Gwf W u G A9 c9 got A0 c0 all) (hG : ∀ y ∈ G, y < u.heap.size)
    (l : List UInt8) (Al : Option Addr) (nl cl : Nat) (hl : l.length = nl) (hlc : nl ≤ cl) (hlm : cl ≤ 9223372036854775807) (hln : Al = none → nl = 0 ∧ cl = 0) (hR : Rf u (owB A9 ++ (owB A0 ++ G)) Al l)
    (b c' : Nat) (hx : a.eval x = .slice (some ⟨b, 0, none⟩) 1 c') (hb : u.cell? ⟨b, 0, none⟩ = some (.slice Al nl cl)) (hW : W.heap.size ≤ u.heap.size) (hlen : n ≤ 1048576) (n' : Nat) (hn' : n + 1 = n')
    (hK : ∀ A2 c2 w', Hid (Gwf W w' G A2 c2 (got ++ [l]) A0 c0 all) → Hid (Gs W u w' G) → wpList Try.prog ops Q rest (a.put o.dst (.slice A2 n' c2)) w') : wpList Try.prog ops Q (o :: rest) a u := by
  obtain ⟨i0, hi1, hz0, hs0, hb0⟩ := info_parts fr_info
  subst hn; subst hl; subst hn'
  obtain ⟨vs, h1, h2⟩ := h.r
  have hlen' : (got ++ [l]).length = got.length + 1 := by rw [List.length_append]; rfl
  refine wpList_append_own_at u hgd s x 45 ho W.heap.size 28 i0 (.slice none 0 0) 1 24 Try.underlying45 hi1 hz0 hs0 hb0 rfl (by decide) _ got.length vs hs h1 ⟨b, 0, none⟩ 1 c' [.slice Al l.length cl] hx rfl ?_ (by simp [Value.oneCell']) (by unfold maxLen; omega) (by omega) hW ?_
  · intro j w hw
    have hj : j = 0 := by
      rcases Nat.eq_zero_or_pos j with h0 | h0
      · exact h0
      · rw [List.getElem?_eq_none (by simp; omega)] at hw; cases hw
    subst hj
    simp at hw
    subst hw
    rw [add_plain]
    exact hb
  · intro v' w' hown' hg _ hat
    obtain ⟨A2, c2, rfl, _, _, _, hb2⟩ := row_at hown'
    have k1 := gr_ke rfl hg
    have hm2 := new_mem (u := u) rfl rfl hat
    have hsp : Sp u w' (owB A9 ++ (owB A0 ++ G)) (owB A2 ++ (owB A0 ++ G)) := ⟨k1.more (fun y hy => List.mem_append_left _ hy), fun y hy => by
      rcases List.mem_append.1 hy with e | e
      · rcases hm2 y e with e | e
        · exact .inl (List.mem_append_left _ e)
        · exact .inr (by omega)
      · exact .inl (List.mem_append_right _ e)⟩
    refine hK A2 c2 w' (Lib.hid ⟨⟨_, by rw [hlen']; exact hown', (h2.step hsp).snoc ⟨Al, cl, rfl, hlc, hlm, hln, hR.step hsp⟩⟩, fun g hg hx => ?_, row_ke h.b k1 (fun g hg hx => ?_), h.n0⟩) (Lib.hid ⟨_, k1, fun y hy => ⟨h.n9 y hy, (h.k9.2.2.2 y hy).1⟩⟩)
    · rcases hm2 g hg with e | e
      · exact h.n9 g e hx
      · have := hG g hx; omega
    · obtain ⟨_, cs, b1⟩ := h.k0.2.2.2 g (owB_mem.2 hg)
      obtain ⟨_, cs', b2⟩ := h.k9.2.2.2 g hx
      exact other_ty b1 b2 (by decide)
end
/-- Where the first k bytes have come: what was told, what is left, what is wrong with it. -/
structure Pq (l : List UInt8) (k : Nat) (q : List UInt8) (got : List (List UInt8)) (bad : Nat) : Prop where
  c : got = cutF (l.take k)
  r : restF (l.take k) = q
  e : bad = errF q
/-- While they are told. -/
structure Fq (l : List UInt8) (k : Nat) (q : List UInt8) (got : List (List UInt8)) (bad : Nat) : Prop where
  c : got ++ cutF q = cutF (l.take k)
  r : restF q = restF (l.take k)
  w : bad = 0 ∨ (bad = 61 ∧ begB q = false)
theorem pq_new (l : List UInt8) : Pq l 0 [] [] 0 := ⟨by rw [List.take_zero]; rfl, by rw [List.take_zero]; rfl, rfl⟩
theorem Pq.feed {l : List UInt8} {k : Nat} {q : List UInt8} {got : List (List UInt8)} {bad : Nat} (h : Pq l k q got bad) (j : Nat) : Fq l (k + j) (q ++ (l.drop k).take j) got bad := by
  have e : l.take (k + j) = l.take k ++ (l.drop k).take j := List.take_add
  obtain ⟨k1, k2⟩ := cut_more (l.take k) ((l.drop k).take j)
  refine ⟨by rw [e, k1, h.c, h.r], by rw [e, k2, h.r], ?_⟩
  rw [h.e]
  cases hb : begB q with
  | true => exact .inl (err_ok q hb)
  | false => exact .inr ⟨err_bad q hb, beg_app_bad q _ hb⟩
theorem Fq.bad {l : List UInt8} {k : Nat} {q : List UInt8} {got : List (List UInt8)} {bad : Nat} (h : Fq l k q got bad) (hb : begB q = false) : Pq l k q got 61 := by
  have h0 := beg_none q hb
  refine ⟨by rw [← h.c, cut_nil q h0, List.append_nil], by rw [← h.r]; exact (done_nil q h0).2, (err_bad q hb).symm⟩
theorem Fq.done {l : List UInt8} {k : Nat} {q : List UInt8} {got : List (List UInt8)} {bad : Nat} (h : Fq l k q got bad) (hb : begB q = true) (h0 : lenF q = 0) : Pq l k q got 0 ∧ bad = 0 := by
  refine ⟨⟨by rw [← h.c, cut_nil q h0, List.append_nil], by rw [← h.r]; exact (done_nil q h0).2, (err_ok q hb).symm⟩, ?_⟩
  rcases h.w with e | ⟨_, e⟩
  · exact e
  · rw [hb] at e; cases e
theorem Fq.more {l : List UInt8} {k : Nat} {q : List UInt8} {got : List (List UInt8)} {bad : Nat} (h : Fq l k q got bad) (h0 : lenF q ≠ 0) : Fq l k (q.drop (lenF q)) (got ++ [partF q]) 0 ∧ bad = 0 := by
  refine ⟨⟨by rw [← h.c, cut_cons q h0, List.append_assoc]; rfl, by rw [← h.r]; exact (done_cons q h0).2.symm, .inl rfl⟩, ?_⟩
  rcases h.w with e | ⟨_, e⟩
  · exact e
  · rw [len_beg q h0] at e; cases e
theorem Pq.count {l : List UInt8} {k : Nat} {q : List UInt8} {got : List (List UInt8)} {bad : Nat} (h : Pq l k q got bad) : got.length ≤ k ∧ (bad = 0 ∨ bad = 61) := by
  have c1 := cut_count (l.take k)
  rw [List.length_take] at c1
  refine ⟨by rw [h.c]; omega, ?_⟩
  rw [h.e]
  unfold errF
  split
  · exact .inl rfl
  · exact .inr rfl
theorem Fq.count {l : List UInt8} {k : Nat} {q : List UInt8} {got : List (List UInt8)} {bad : Nat} (h : Fq l k q got bad) : got.length ≤ k := by
  have c1 := cut_count (l.take k)
  rw [List.length_take, ← h.c, List.length_append] at c1
  omega
abbrev cnQ (q : List UInt8) : Cn := ⟨0, q, [], 0, false⟩
theorem gc_q {q : List UInt8} (h : q.length ≤ 512) : Gc (tOne (cnQ q)) := gc_one ⟨h, by simp, by show 0 ≤ _; omega⟩
theorem ne_bad {q : List UInt8} (h : q.length ≤ 512) (hb : begB q = false) : neC (tOne (cnQ q)) 1 = (([], false, 61), tOne (cnQ q)) := one_ne (gc_q h) (by unfold ne1; rw [if_pos hb])
theorem ne_done {q : List UInt8} (h : q.length ≤ 512) (hb : begB q = true) (h0 : lenF q = 0) : neC (tOne (cnQ q)) 1 = (([], false, 0), tOne (cnQ q)) := one_ne (gc_q h) (by unfold ne1; rw [if_neg (by show ¬ (begB q = false); rw [hb]; simp), if_pos h0])
theorem ne_more {q : List UInt8} (h : q.length ≤ 512) (h0 : lenF q ≠ 0) : neC (tOne (cnQ q)) 1 = ((partF q, true, 0), tOne (cnQ (q.drop (lenF q)))) := one_ne (gc_q h) (by unfold ne1; rw [if_neg (by show ¬ (begB q = false); rw [len_beg q h0]; simp), if_neg h0])
theorem fe_q {q X : List UInt8} (h : q.length ≤ 512) : feC (tOne (cnQ q)) 1 X = (min X.length (512 - q.length), tOne (cnQ (q ++ X.take (512 - q.length)))) := one_fe (gc_q h) (by unfold fe1; rw [if_neg (by simp)])
end Go.Proofs.Ytndamiocmdnenaa
