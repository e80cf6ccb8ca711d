/- The row's Push and Pop. -/
import Derived.Test.YtdfllobdefodfaaCk4
namespace Go.Proofs.Ytdfllobdefodfaa
set_option linter.unusedVariables false
set_option linter.unusedSimpArgs false
open Go.RowKit

variable {u : World} {F : List Nat} {c : Nat} {now : Int} {mb : Nat} {A : Option Addr} {cap : Nat} {l : List Al}

theorem al_info : (Try.prog.info? 61).map (fun i => (i.zero, i.size, i.bytes)) = some (some (.pointer none), 1, 8) := by kernel_rfl
theorem assert_al (b : Nat) (w : World) : (Instr.typeAssert (.iface 61 (ptr b)) 20 61 false).run Try.prog w = .ok (ptr b) w := by kernel_rfl
theorem cell_one_here {w : World} {n : Nat} (h : n = w.heap.size) (v : Value) (t : TypeId) : ∀ j u, [v][j]? = some u → (w.alloc (.cells #[v] t)).cell? ((⟨n, 0, none⟩ : Addr).add j) = some u := by subst h; exact cell_one_new w v t
abbrev qcells (l : List Al) : List Value := l.map fun x => ptr x.b

theorem Rwp.owns (h : Rwp u F A cap l) : u.ownsRow 0 61 1 (.slice A l.length cap) l.length (qcells l) := by
  refine ⟨by simp, ?_⟩
  rcases h with ⟨h1, h2, h3⟩ | ⟨g, cur, h1, h2, h3, h4, h5, h6, h7⟩
  · subst h1; subst h2; subst h3; exact .inl ⟨rfl, rfl⟩
  · refine .inr ⟨g, cap, cur, by rw [h1], Nat.zero_le _, h3, h4, h5, by omega, ?_⟩
    apply List.ext_getElem?
    intro i
    rw [Nat.mul_one, List.getElem?_take]
    by_cases hi : i < l.length
    · rw [if_pos hi, Array.getElem?_toList, h7 i hi, List.getElem?_map, nth_get hi]
      rfl
    · rw [if_neg hi, List.getElem?_eq_none (by simpa using hi)]
theorem Rwp.of_owns {g n : Nat} (h : u.ownsRow 0 61 1 (.slice (some ⟨g, 0, none⟩) n cap) n (qcells l)) (hn : l.length = n) (hg : g ∈ F) : Rwp u F (some ⟨g, 0, none⟩) cap l := by
  subst hn
  rcases h.2 with ⟨h1, _⟩ | ⟨g', cap', cur, h1, _, h3, h4, h5, h6, h7⟩
  · cases h1
  · injection h1 with e1 _ e3
    injection e1 with e1
    injection e1 with e1
    subst e1; subst e3
    refine .inr ⟨g, cur, rfl, hg, h3, h4, h5, by omega, fun i hi => ?_⟩
    have := congrArg (fun l => l[i]?) h7
    simp only [Nat.mul_one, List.getElem?_take, if_pos hi, Array.getElem?_toList, List.getElem?_map, nth_get hi] at this
    exact this

/-- What Push leaves. -/
theorem push_left {w0 w1 w2 : World} (h : Hp u F c now mb A cap l) (hl : l.length ≤ 1024) (x : Al) {k : Nat} (hx : Bk u x.b 65 (acells x k)) (hfr : ∀ i, i < l.length → (nth l i).b ≠ x.b) (h0 : w0 = u.setCell ⟨x.b, 2, none⟩ (.int .i64 (l.length : Int)))
    (h1 : w1 = w0.alloc (.cells #[ptr x.b] 61)) {g cap' : Nat} (ho : w2.ownsRow 0 61 1 (.slice (some ⟨g, 0, none⟩) (l.length + 1) cap') (l.length + 1) (qcells l ++ [ptr x.b]))
    (hg : w1.grownBy w2 (Value.slice A l.length cap).ownBlock) (hat : (Value.slice A l.length cap).ownBlock = some g ∨ w1.heap.size ≤ g) :
    Bk w2 c 60 (ccells now mb A l.length cap) ∧ Hp (w2.setCell ⟨c, 2, none⟩ (.slice (some ⟨g, 0, none⟩) (l.length + 1) cap')) (x.b :: g :: F) c now mb (some ⟨g, 0, none⟩) cap' (l ++ [x]) ∧ Ke (x.b :: F) u (w2.setCell ⟨c, 2, none⟩ (.slice (some ⟨g, 0, none⟩) (l.length + 1) cap')) ∧ (g ∈ F ∨ u.heap.size ≤ g) := by
  have hrow : ∀ b, (Value.slice A l.length cap).ownBlock = some b → b ∈ F ∧ ∃ cs, Bk u b 61 cs := by
    intro b hb
    rcases h.row with ⟨e1, _⟩ | ⟨g', cur, e1, e2, e3, _⟩
    · subst e1; cases hb
    · subst e1
      simp [Value.ownBlock] at hb
      subst hb
      exact ⟨e2, _, e3⟩
  have hk0 : Ke [x.b] u w0 := h0 ▸ (Ke.refl _ _).set (p := ⟨x.b, 2, none⟩) (by simp) _
  have hk1 : Ke [x.b] u w1 := h1 ▸ hk0.alloc _
  have hk2 : Ke F w1 w2 := ⟨hg.os, hg.tape, hg.output, hg.size, fun b hb hF => hg.block b hb (fun e => hF (hrow b e.symm).1)⟩
  have hk2' : ∀ b t cs, b < w1.heap.size → Bk w1 b t cs → t ≠ 61 → Bk w2 b t cs := fun b t cs hb hbk ht => (hg.block b hb (fun e => by
    obtain ⟨_, cs', h3⟩ := hrow b e.symm
    by_cases hbx : b = x.b
    · subst hbx; exact absurd (hx.type h3) (by decide)
    · have h4 : Bk u b t cs := by
        have hlt : b < u.heap.size := h3.lt
        exact ((hk1.block b hlt (by simpa using hbx)).symm).trans hbk
      exact ht (h4.type h3))).trans hbk
  have hcx : c ≠ x.b := h.ck.ne hx (by decide)
  have hsz := hk1.size
  have hc1 : Bk w1 c 60 (ccells now mb A l.length cap) := h.ck.ke hk1 (by simpa using hcx)
  have hc2 := hk2' _ _ _ hc1.lt hc1 (by decide)
  have hx1 : Bk w1 x.b 65 (acells x l.length) := by
    rw [h1, h0]
    exact (hx.set 2 _).alloc _
  have hx2 := hk2' _ _ _ hx1.lt hx1 (by decide)
  have hal : ∀ i, i < l.length → Bk w2 (nth l i).b 65 (acells (nth l i) i) := fun i hi => by
    have := (h.als i hi).ke hk1 (by simpa using hfr i hi)
    exact hk2' _ _ _ this.lt this (by decide)
  have hgc : g ≠ c := by
    rcases hat with e | e
    · obtain ⟨_, cs, h3⟩ := hrow g e
      exact (h.ck.ne h3 (by decide)).symm
    · have := h.ck.lt; omega
  have hlen : (l ++ [x]).length = l.length + 1 := by simp
  have hn0 : ∀ i, i < l.length → nth (l ++ [x]) i = nth l i := fun i hi => nth_append_left hi
  refine ⟨hc2, ⟨?_, ?_, fun i hi => ?_, by rw [hlen]; omega, by simp [h.fc], fun i hi => ?_⟩, ?_, ?_⟩
  · rw [hlen]
    exact hc2.set 2 _
  · have ho' : w2.ownsRow 0 61 1 (.slice (some ⟨g, 0, none⟩) (l.length + 1) cap') (l.length + 1) (qcells (l ++ [x])) := by
      rw [show qcells (l ++ [x]) = qcells l ++ [ptr x.b] by simp]
      exact ho
    rcases Rwp.of_owns (F := x.b :: g :: F) ho' hlen (by simp) with ⟨e, _⟩ | ⟨g', cur, e1, e2, e3, r⟩
    · cases e
    · injection e1 with e1
      injection e1 with e1
      subst e1
      exact .inr ⟨g, cur, rfl, e2, e3.far hgc _, r⟩
  · rw [hlen] at hi
    by_cases hil : i = l.length
    · subst hil
      rw [nth_append_at]
      exact hx2.far hcx.symm _
    · rw [hn0 i (by omega)]
      exact (hal i (by omega)).far ((h.als i (by omega)).ne h.ck (by decide)) _
  · rw [hlen] at hi
    by_cases hil : i = l.length
    · subst hil
      rw [nth_append_at]; simp
    · rw [hn0 i (by omega)]
      simp [h.fl i (by omega)]
  · exact ((hk1.more (by simp)).trans (hk2.more (by intro y hy; simp [hy]))).set (p := ⟨c, 2, none⟩) (by simp [h.fc]) _
  · rcases hat with e | e
    · exact .inl (hrow g e).1
    · exact .inr (by omega)

set_option maxRecDepth 100000 in
set_option maxHeartbeats 4000000 in
theorem rpush_ok (u : World) (h : Hp u F c now mb A cap l) (hl : l.length ≤ 1024) (x : Al) (k : Nat) (hx : Bk u x.b 65 (acells x k)) (hfr : ∀ i, i < l.length → (nth l i).b ≠ x.b) :
    Calls Try.prog 52 #[.pointer (some ⟨c, 2, none⟩), .iface 61 (ptr x.b)] u fun e u' => e = .returned (.tuple #[]) ∧
      ∃ g cap', Hp u' (x.b :: g :: F) c now mb (some ⟨g, 0, none⟩) cap' (l ++ [x]) ∧ Ke (x.b :: F) u u' ∧ (g ∈ F ∨ u.heap.size ≤ g) := by
  have HLEFT := Lib.hid (fun w0 w1 w2 => push_left (w0 := w0) (w1 := w1) (w2 := w2) h hl x hx hfr)
  have hcx : c ≠ x.b := h.ck.ne hx (by decide)
  obtain ⟨c0, c1, c2⟩ := h.ck.cells3
  obtain ⟨x0, x1, x2⟩ := hx.cells3
  have fx := hx.frozen 2
  have HROW := Lib.hid (show (u.setCell ⟨x.b, 2, none⟩ (.int .i64 (l.length : Int))).ownsRow 0 61 1 (.slice A l.length cap) l.length (qcells l) from by
    refine Rwp.owns (F := F) ?_
    rcases h.row with e | ⟨g, cur, e1, e2, e3, r⟩
    · exact .inl e
    · exact .inr ⟨g, cur, e1, e2, e3.far (hx.ne e3 (by decide)).symm _, r⟩)
  obtain ⟨i0, hi1, hz0, hs0, hb0⟩ := info_parts al_info
  have HI := Lib.hid (And.intro hi1 (And.intro hz0 (And.intro hs0 hb0)))
  have HC := Lib.hid h.ck
  have HXB := Lib.hid hx
  have c2' : (u.setCell ⟨x.b, 2, none⟩ (.int .i64 (l.length : Int))).cell? ⟨c, 2, none⟩ = some (.slice A l.length cap) := by
    rw [(h.ck.far hcx _).cell]; rfl
  have hta := assert_al x.b
  generalize x.b = b at *
  generalize hn : l.length = n at *
  clear h hx hfr hi1 hz0 hs0 hb0 c0 c1 x0 x1
  go_enter Try.func52, Try.ntmps52
  go_wp2_with (first
    | (at_builtin; go_must (refine wpList_append_lies _ rfl (.tmp 17) (.tmp 19) 58 rfl 0 61 i0 (.pointer none) 1 8 Try.underlying58 HI.out.1 HI.out.2.1 HI.out.2.2.1 HI.out.2.2.2 rfl (by decide) (.slice A n cap) n (qcells l) rfl (World.ownsRow.alloc HROW.out _) ⟨u.heap.size, 0, none⟩ 1 1 [ptr b] rfl rfl (cell_one_here (by simp) _ _) (by simp [Value.oneCell']) (by omega) (by unfold maxLen; omega) (by omega) (Nat.zero_le _) _ rfl ?_)
       intro g cap' w2 ho hg hat hlt
       obtain ⟨hcw, HQ'⟩ := HLEFT.out _ _ w2 rfl rfl ho hg (hat.imp id (fun e => Nat.le_of_eq e.symm))
       have HQ := Lib.hid HQ'
       have c2w := hcw.cells3.2.2
       have fcw := hcw.frozen 2
       clear HQ' hcw ho hg hat hlt))
  go_returns
  obtain ⟨q1, q2, q3⟩ := HQ.out
  exact ⟨rfl, g, cap', q1, q2, q3⟩

/-- What Pop leaves. -/
theorem pop_left {w : World} (h : Hp u F c now mb A cap l) {m g : Nat} (hm : l.length = m + 1) {cur : Array Value} (hA : A = some ⟨g, 0, none⟩) (hg : g ∈ F) (hc1 : l.length ≤ cap) (hc2 : cap ≤ maxLen) (hc3 : cur.size = cap)
    (hcell : ∀ i, i < l.length → cur[i]? = some (ptr (nth l i).b)) (hb : Bk u g 61 cur) (hw : w = (u.setCell ⟨g, m, none⟩ (.pointer none)).setCell ⟨c, 2, none⟩ (.slice A m cap)) :
    Hp w F c now mb A cap (l.take m) ∧ Ke F u w ∧ Bk w (nth l m).b 65 (acells (nth l m) m) := by
  have hne : ∀ k, k < l.length → (nth l k).b ≠ g := fun k hk => (h.als k hk).ne hb (by decide)
  have hnc : ∀ k, k < l.length → (nth l k).b ≠ c := fun k hk => (h.als k hk).ne h.ck (by decide)
  have hcg : c ≠ g := h.ck.ne hb (by decide)
  have hlen : (l.take m).length = m := by rw [List.length_take]; omega
  have hal : ∀ k, k < l.length → Bk w (nth l k).b 65 (acells (nth l k) k) := fun k hk => by
    rw [hw]
    exact ((h.als k hk).far (hne k hk) _).far (hnc k hk) _
  refine ⟨⟨?_, .inr ⟨g, cur.setIfInBounds m (.pointer none), hA, hg, ?_, by rw [hlen]; omega, hc2, by simp [hc3], fun i hi => ?_⟩, fun i hi => ?_, by rw [hlen]; have := h.few; omega, h.fc, fun i hi => ?_⟩, ?_, hal m (by omega)⟩
  · rw [hw, hlen]
    exact (h.ck.far hcg _).set 2 _
  · rw [hw]
    exact (hb.set m _).far hcg.symm _
  · rw [hlen] at hi
    rw [nth_take hi, Array.getElem?_setIfInBounds, if_neg (by omega)]
    exact hcell i (by omega)
  · rw [hlen] at hi
    rw [nth_take hi]
    exact hal i (by omega)
  · rw [hlen] at hi
    rw [nth_take hi]
    exact h.fl i (by omega)
  · rw [hw]
    exact ((Ke.refl F u).set (p := ⟨g, m, none⟩) hg _).set (p := ⟨c, 2, none⟩) h.fc _

set_option maxRecDepth 100000 in
set_option maxHeartbeats 4000000 in
theorem rpop_ok (u : World) (h : Hp u F c now mb A cap l) (m : Nat) (hm : l.length = m + 1) :
    Calls Try.prog 51 #[.pointer (some ⟨c, 2, none⟩)] u fun e u' => e = .returned (.iface 61 (ptr (nth l m).b)) ∧
      Hp u' F c now mb A cap (l.take m) ∧ Ke F u u' ∧ Bk u' (nth l m).b 65 (acells (nth l m) m) := by
  obtain ⟨g, cur, rfl, hg, hb, hc1, hc2, hc3, hcell⟩ := h.at_ (i := m) (by omega)
  have HLEFT := Lib.hid (fun w => pop_left (w := w) h hm rfl hg hc1 hc2 hc3 hcell hb)
  have gm := (hb.cell m).trans (hcell m (by omega))
  have fm := hb.frozen m
  obtain ⟨_, _, c2⟩ := h.ck.cells3
  have fc := h.ck.frozen 2
  have hcg : c ≠ g := h.ck.ne hb (by decide)
  rw [hm] at c2 hc1
  obtain ⟨n, hn⟩ : ∃ n, n = m + 1 := ⟨_, rfl⟩
  rw [← hn] at c2 hc1
  have hn1 : (n : Int) - 1 = (m : Int) := by omega
  have hnm : m < n := by omega
  have hfew : n ≤ 1025 := by have := h.few; omega
  have hmc : m ≤ cap := by omega
  have hmc2 : (m : Int) ≤ (cap : Int) := by omega
  have hmn : (m : Int) < (n : Int) := by omega
  have c2' : (u.setCell ⟨g, m, none⟩ (.pointer none)).cell? ⟨c, 2, none⟩ = some (.slice (some ⟨g, 0, none⟩) n cap) := by
    have := (h.ck.far hcg (p := ⟨g, m, none⟩) (.pointer none)).cells3.2.2
    rw [hm, ← hn] at this
    exact this
  generalize (nth l m).b = b at *
  clear h hb hcell hc2 hc3 hg hm hn
  go_enter Try.func51, Try.ntmps51
  go_wp2_with fail
  go_ret
  obtain ⟨q1, q2, q3⟩ := HLEFT.out _ rfl
  exact ⟨rfl, q1, q2, q3⟩
end Go.Proofs.Ytdfllobdefodfaa
