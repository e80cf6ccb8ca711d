/- Qu4, Qu5: texts of this seat, one behind the other. -/
import Derived.Test.YtikkiifcnjiegaaG6
import Derived.BigRegion
import Derived.Deep.Cut
/- A queue's Drop, Take: their contracts. -/
namespace Go.Proofs.Ytikkiifcnjiegaa
set_option linter.unusedVariables false
set_option maxRecDepth 100000
set_option linter.unusedSimpArgs false
open Go.RowKit

theorem perm_out {q : List Qn} (h : (q.map (·.id)).Nodup) {x : Qn} (hx : x ∈ q) : q.Perm (x :: outQ q x.id) := by
  induction q with
  | nil => cases hx
  | cons y r ih =>
    rw [List.map_cons, List.nodup_cons] at h
    unfold outQ
    rw [List.filter_cons]
    rcases List.mem_cons.1 hx with rfl | hx
    · rw [if_neg (by simp)]
      have hs : outQ r x.id = r := List.filter_eq_self.2 fun z hz => by
        rw [bne_iff_ne]
        intro e2
        exact h.1 (by rw [← e2]; exact List.mem_map.2 ⟨z, hz, rfl⟩)
      show (x :: r).Perm (x :: outQ r x.id)
      rw [hs]
    · have hne : y.id ≠ x.id := fun e => h.1 (by rw [e]; exact List.mem_map.2 ⟨x, hx, rfl⟩)
      rw [if_pos (by simp [hne])]
      exact ((ih h.2 hx).cons y).trans (List.Perm.swap x y _)
theorem li_iff {q : List Qn} {s : ByteArray} : liQ q s ≠ [] ↔ ∃ x ∈ q, x.nm = s := by
  rw [ne_eq, li_none, Classical.not_not]
section
variable {u u' : World} {qb mr mw : Nat} {ns : List ByteArray} {ad ar cp : ByteArray → Nat} {q : List Qn}
theorem Zq.nm (h : Zq u qb mr mw ns ad ar cp q) (s : ByteArray) : s ∈ ns ↔ liQ q s ≠ [] := (h.names s).trans li_iff.symm
theorem outM_map (s : ByteArray) (ns : List ByteArray) (ad : ByteArray → Nat) : outM s (ns.map fun t => (t, ad t)) = (ns.filter fun t => !nmQ t s).map fun t => (t, ad t) := by
  unfold outM
  rw [List.filter_map]
  rfl
/-- One is gone. -/
theorem Zq.gone (h : Zq u qb mr mw ns ad ar cp q) {x : Qn} (hx : x ∈ q) {ns' : List ByteArray} (hr : Mq u' mr (ns'.map fun s => (s, ad s))) (hw : Mi u' mw ((outQ q x.id).map fun y => (y.id, ad y.nm)))
    (k : Ke [mr, mw, ad x.nm, ar x.nm] u u') (hsub : ∀ t, t ∈ ns' ↔ t ∈ ns ∧ liQ (outQ q x.id) t ≠ []) (hpw : ns'.Pairwise (fun s t => ar s ≠ ar t))
    (hb : x.nm ∈ ns' → Bk u' (ad x.nm) 55 (qrc x.nm (some ⟨ar x.nm, 0, none⟩) (liQ (outQ q x.id) x.nm).length (cp x.nm)) ∧ OI u' 0 (some ⟨ar x.nm, 0, none⟩) (cp x.nm) (liQ (outQ q x.id) x.nm)) :
    Zq u' qb mr mw ns' ad ar cp (outQ q x.id) ∧ Ke (ftQ qb mr mw ns ad ar) u u' ∧ ∀ y ∈ ftQ qb mr mw ns' ad ar, y ∈ ftQ qb mr mw ns ad ar := by
  have hxn := h.has hx
  obtain ⟨csx, hcx⟩ := (h.row _ hxn).2.bk
  have hmem : x.id ∈ liQ q x.nm := mem_li hx
  refine ⟨⟨h.blk.ke k ?_, hr, hw, fun t ht => ?_, hpw, fun t => ?_, qg_out h.ok _, h.two⟩, k.more fun y hy => ?_, fun y hy => ?_⟩
  · have h1 := bk_map h.blk h.mr_.block
    have h2 := bk_map h.blk h.mw_.block
    have h3 := bk_ne h.blk (h.row _ hxn).1 (by decide)
    have h4 := bk_ne h.blk hcx (by decide)
    simp [h1, h2, h3, h4]
  · by_cases e : t = x.nm
    · subst e; exact hb ht
    · have htn := ((hsub t).1 ht).1
      obtain ⟨cst, hct⟩ := (h.row _ htn).2.bk
      have hl : liQ (outQ q x.id) t = liQ q t := li_far h.ok.nd hmem (fun e2 => e e2.symm)
      have hrow := (h.row _ htn).1
      rw [hl]
      refine ⟨hrow.ke k ?_, (h.row _ htn).2.keep fun g cs hg hh => hh.ke k ?_⟩
      · have h1 := bk_map hrow h.mr_.block
        have h2 := bk_map hrow h.mw_.block
        have h3 : ad t ≠ ad x.nm := fun e2 => e (h.adr htn hxn e2)
        have h4 := bk_ne hrow hcx (by decide)
        simp [h1, h2, h3, h4]
      · simp [Value.ownBlock] at hg
        subst hg
        have h1 := bk_map hct h.mr_.block
        have h2 := bk_map hct h.mw_.block
        have h3 := bk_ne hct (h.row _ hxn).1 (by decide)
        have h4 : ar t ≠ ar x.nm := fun e2 => e (h.arr htn hxn e2)
        simp [h1, h2, h3, h4]
  · rw [hsub t, ← li_iff]
    constructor
    · exact fun hh => hh.2
    · intro hh
      refine ⟨(h.nm t).2 fun e => hh ?_, hh⟩
      rw [li_out, e]; rfl
  · simp only [List.mem_cons, List.not_mem_nil, or_false] at hy
    rcases hy with rfl | rfl | rfl | rfl
    · exact mem_ftQ.2 (.inr (.inl rfl))
    · exact mem_ftQ.2 (.inr (.inr (.inl rfl)))
    · exact mem_ftQ.2 (.inr (.inr (.inr (.inl ⟨_, hxn, rfl⟩))))
    · exact mem_ftQ.2 (.inr (.inr (.inr (.inr ⟨_, hxn, rfl⟩))))
  · rcases mem_ftQ.1 hy with rfl | rfl | rfl | ⟨s, hs, rfl⟩ | ⟨s, hs, rfl⟩
    · exact mem_ftQ.2 (.inl rfl)
    · exact mem_ftQ.2 (.inr (.inl rfl))
    · exact mem_ftQ.2 (.inr (.inr (.inl rfl)))
    · exact mem_ftQ.2 (.inr (.inr (.inr (.inl ⟨s, ((hsub s).1 hs).1, rfl⟩))))
    · exact mem_ftQ.2 (.inr (.inr (.inr (.inr ⟨s, ((hsub s).1 hs).1, rfl⟩))))
/-- What Drop leaves. -/
structure DropPost (u : World) (qb mr mw : Nat) (ns : List ByteArray) (ad ar cp : ByteArray → Nat) (q : List Qn) (id : Int) (e : Ending) (u' : World) : Prop where
  e : e = .returned (.bool (whQ q id).isSome)
  z : ∃ ns', Zq u' qb mr mw ns' ad ar cp (outQ q id) ∧ ∀ y ∈ ftQ qb mr mw ns' ad ar, y ∈ ftQ qb mr mw ns ad ar
  k : Ke (ftQ qb mr mw ns ad ar) u u'
set_option maxRecDepth 100000 in
set_option maxHeartbeats 4000000 in
theorem qdrop_ok (h : Zq u qb mr mw ns ad ar cp q) (id : Int) (hid : WfI id) :
    Calls Try.prog 15 #[.pointer (some ⟨qb, 0, none⟩), .int .i64 id] u (DropPost u qb mr mw ns ad ar cp q id) := by
  have c1 : u.cell? ⟨qb, 1, none⟩ = some (.map (some mw)) := h.blk.cell 1
  cases hw : whQ q id with
  | none =>
    have hl := h.mw_.miss hid (by
      intro x hx e
      obtain ⟨y, hy, rfl⟩ := List.mem_map.1 hx
      exact wh_none hw (List.mem_map.2 ⟨y, hy, e⟩))
    have HP := Lib.hid (show DropPost u qb mr mw ns ad ar cp q id (.returned (.bool false)) u from ⟨by rw [hw]; rfl, ⟨ns, by rw [out_same hw]; exact h, fun y hy => hy⟩, Ke.refl _ _⟩)
    clear h hw
    go_enter Try.func15, Try.ntmps15
    go_wp2
    go_ret
    exact HP.out
  | some x =>
    obtain ⟨hx, rfl⟩ := wh_some hw
    have hl := h.mw_.hit (x := (x.id, ad x.nm)) (List.mem_map.2 ⟨x, hx, rfl⟩)
    have hxn := h.has hx
    have hxm : x.id ∈ liQ q x.nm := mem_li hx
    obtain ⟨csx, hcx⟩ := (h.row _ hxn).2.bk
    obtain ⟨u1, hd1, hm1, hk1⟩ := (h.mw_.perm (m := (x.id, ad x.nm) :: (outQ q x.id).map fun y => (y.id, ad y.nm)) ((perm_out h.ok.nd hx).map _)).drop 0
    have hrow := (h.row _ hxn).1
    have n1 := bk_map hrow h.mw_.block
    have n2 := bk_map hcx h.mw_.block
    have n3 := bk_map h.blk h.mw_.block
    have n4 := bk_map hrow h.mr_.block
    have n5 := bk_map hcx h.mr_.block
    have n6 := bk_map h.blk h.mr_.block
    have n7 := bk_ne h.blk hrow (by decide)
    have n8 := bk_ne h.blk hcx (by decide)
    have r1 := hrow.ke hk1 (by simpa using n1)
    have o1 := (h.row _ hxn).2.keep (w' := u1) fun g cs hg hh => hh.ke hk1 (by simp [Value.ownBlock] at hg; simpa [← hg] using n2)
    have HD := Lib.hid (rdrop_ok u1 (ad x.nm) (ar x.nm) (cp x.nm) x.nm (liQ q x.nm) x.id r1 o1 (li_nodup h.ok.nd _) hxm (Nat.le_trans (h.ok.row _) (by omega)))
    rw [← li_out] at HD
    have HX := Lib.hid hx
    have HZ := Lib.hid h
    have HK1 := Lib.hid hk1
    have HM1 := Lib.hid hm1
    have HW := Lib.hid hw
    obtain ⟨n, hn⟩ : ∃ n, (liQ (outQ q x.id) x.nm).length = n := ⟨_, rfl⟩
    have HN := Lib.hid hn
    rw [hn] at HD
    have hn8 : n ≤ 8 := by rw [← hn]; exact (qg_out h.ok _).row _
    have HB := Lib.hid (show (∀ y ∈ [mw], y ∉ [mr]) ∧ qb ∉ [mw] ∧ qb ∉ [ad x.nm, ar x.nm] ∧ mr ∉ [mw] ∧ mr ∉ [ad x.nm, ar x.nm] ∧ mw ∉ [ad x.nm, ar x.nm] ∧ mw ∉ [mr] ∧ ad x.nm ∉ [mr] ∧ ar x.nm ∉ [mr] ∧ qb ∉ [mr] by
      have h2 := h.two
      have := n1.symm; have := n2.symm; have := n4.symm; have := n5.symm
      simp [n3, n4, n5, n6, n7, n8, h2, h2.symm, *])
    have HSZ := Lib.hid (h.sz hxn)
    have HXN := Lib.hid hxn
    obtain ⟨nm, id⟩ := x
    dsimp only at hl hd1 HD HX HZ HK1 HM1 HW HN HB HSZ HXN
    clear h hw hx hxn hxm hcx csx hm1 hk1 hrow n1 n2 n3 n4 n5 n6 n7 n8 r1 o1 hn hid
    go_enter Try.func15, Try.ntmps15
    go_upto_region 6 with (go_at_call 26; (with_reducible refine HD.out.mono ?_); rintro e u2 ⟨rfl, h1, h2, h3⟩; have HB2 := Lib.hid h1; have HO2 := Lib.hid h2; have HK2 := Lib.hid h3; clear h1 h2 h3)
    have r2 : u2.cell? ⟨ad nm, 1, none⟩ = some (.slice (some ⟨ar nm, 0, none⟩) n (cp nm)) := HB2.out.cell 1
    have HM2 := Lib.hid (show Mq u2 mr (ns.map fun s => (s, ad s)) from (HZ.out.mr_.ke HK1.out HB.out.2.2.2.1).ke HK2.out HB.out.2.2.2.2.1)
    have HI2 := Lib.hid (show Mi u2 mw ((outQ q id).map fun y => (y.id, ad y.nm)) from HM1.out.ke HK2.out HB.out.2.2.2.2.2.1)
    by_cases h0 : n = 0
    · subst h0
      have HL0 := Lib.hid (List.eq_nil_of_length_eq_zero HN.out)
      obtain ⟨u3, hd3, hm3, hk3⟩ := (HM2.out.ke (L := []) (Ke.refl _ _).drew (by simp)).drop nm HSZ.out 0
      have q0 : u2.cell? ⟨qb, 0, none⟩ = some (.map (some mr)) := ((HZ.out.blk.ke HK1.out HB.out.2.1).ke HK2.out HB.out.2.2.1).cell 0
      have r0 : u2.cell? ⟨ad nm, 0, none⟩ = some (.string nm) := HB2.out.cell 0
      have HM3 := Lib.hid hm3
      have HK3 := Lib.hid hk3
      clear hm3 hk3
      go_upto_region 7 with fail
      go_region
      go_wp2
      go_ret
      obtain ⟨z1, z2, z3⟩ := HZ.out.gone HX.out (ns' := ns.filter fun t => !nmQ t nm) (by rw [← outM_map]; exact HM3.out) ((HI2.out.ke (L := []) (Ke.refl _ _).drew (by simp)).ke HK3.out HB.out.2.2.2.2.2.2.1)
        ((((HK1.out.more (by simp)).trans (HK2.out.more (by simp))).drew).trans (HK3.out.more (by simp))) (fun t => by
          rw [List.mem_filter]
          constructor
          · rintro ⟨h1, h2⟩
            refine ⟨h1, ?_⟩
            have hne : nm ≠ t := by rintro rfl; rw [nmQ_same] at h2; cases h2
            rw [li_far HZ.out.ok.nd (mem_li HX.out) hne]
            exact (HZ.out.nm t).1 h1
          · rintro ⟨h1, h2⟩
            refine ⟨h1, ?_⟩
            cases hq : nmQ t nm with
            | false => rfl
            | true => rw [(nmQ_iff _ _).1 hq] at h2; exact absurd HL0.out h2) (HZ.out.apart.filter _) (fun hh => by
          rw [List.mem_filter, nmQ_same] at hh
          cases hh.2)
      exact ⟨by rw [HW.out]; rfl, ⟨_, z1, z3⟩, z2⟩
    · have hb0 : ((n : Int) == 0) = false := by rw [beq_eq_false_iff_ne]; omega
      go_wp2
      go_ret
      obtain ⟨z1, z2, z3⟩ := HZ.out.gone HX.out (ns' := ns) HM2.out HI2.out
        ((HK1.out.more (by simp)).trans (HK2.out.more (by simp))) (fun t => by
          refine ⟨fun h1 => ⟨h1, ?_⟩, fun hh => hh.1⟩
          by_cases hne : nm = t
          · subst hne
            intro e
            have := HN.out
            rw [e] at this
            exact h0 this.symm
          · rw [li_far HZ.out.ok.nd (mem_li HX.out) hne]
            exact (HZ.out.nm t).1 h1) HZ.out.apart (fun _ => by
          dsimp only
          rw [HN.out]
          exact ⟨HB2.out, HO2.out⟩)
      exact ⟨by rw [HW.out]; rfl, ⟨_, z1, z3⟩, z2⟩
/-- What Take leaves. -/
structure TakePostQ (u : World) (qb mr mw : Nat) (ns : List ByteArray) (ad ar cp : ByteArray → Nat) (q : List Qn) (s : ByteArray) (e : Ending) (u' : World) : Prop where
  e : e = .returned (.tuple #[.int .i64 (tkQ q s).1, .bool (tkQ q s).2.1])
  z : ∃ ns', Zq u' qb mr mw ns' ad ar cp (tkQ q s).2.2 ∧ ∀ y ∈ ftQ qb mr mw ns' ad ar, y ∈ ftQ qb mr mw ns ad ar
  k : Ke (ftQ qb mr mw ns ad ar) u u'
set_option maxRecDepth 100000 in
set_option maxHeartbeats 4000000 in
theorem qtake_ok (h : Zq u qb mr mw ns ad ar cp q) (s : ByteArray) (hs : s.size ≤ 140737488355328) :
    Calls Try.prog 13 #[.pointer (some ⟨qb, 0, none⟩), .string s] u (TakePostQ u qb mr mw ns ad ar cp q s) := by
  have c0 : u.cell? ⟨qb, 0, none⟩ = some (.map (some mr)) := h.blk.cell 0
  cases hl : liQ q s with
  | nil =>
    have hl2 := h.mr_.miss hs (by
      intro x hx e
      obtain ⟨y, hy, rfl⟩ := List.mem_map.1 hx
      exact (h.nm y).1 hy (by rw [show y = s from e]; exact hl))
    have HP := Lib.hid (show TakePostQ u qb mr mw ns ad ar cp q s (.returned (.tuple #[.int .i64 0, .bool false])) u from by
      have e := tk_no hl
      exact ⟨by rw [e], ⟨ns, by rw [e]; exact h, fun y hy => hy⟩, Ke.refl _ _⟩)
    clear h hl hs
    go_enter Try.func13, Try.ntmps13
    go_wp2
    go_ret2
    exact HP.out
  | cons a r =>
    have hn : s ∈ ns := (h.nm s).2 (by rw [hl]; exact List.cons_ne_nil _ _)
    have hl2 := h.mr_.hit (s := s) (b := ad s) (List.mem_map.2 ⟨s, hn, rfl⟩)
    obtain ⟨x, hx, hxa, hxs⟩ := li_mem (q := q) (s := s) (id := a) (by rw [hl]; exact List.mem_cons_self ..)
    have HD := Lib.hid (qdrop_ok h a (by rw [← hxa]; exact h.wf hx))
    obtain ⟨n, hn0⟩ : ∃ n, (liQ q s).length = n := ⟨_, rfl⟩
    have c1 : u.cell? ⟨ad s, 1, none⟩ = some (.slice (some ⟨ar s, 0, none⟩) n (cp s)) := by rw [← hn0]; exact (h.row s hn).1.cell 1
    have c2 := (h.row s hn).2.cell 0 (by rw [hl]; exact Nat.zero_lt_succ _)
    rw [hl, Nat.zero_add] at c2
    simp only [List.getD_cons_zero] at c2
    have hn1 : 0 < n := by rw [← hn0, hl]; exact Nat.zero_lt_succ _
    have hn2 : (0 : Int) < (n : Int) := by omega
    have HT := Lib.hid (tk_first hl)
    have HW := Lib.hid (show (whQ q a).isSome = true by rw [wh_isSome]; exact ⟨x, hx, hxa⟩)
    clear h hl hn hx hxa hxs hn0 hs
    go_enter Try.func13, Try.ntmps13
    go_wp2_with (go_at_call 15; (with_reducible refine HD.out.mono ?_); rintro e u2 ⟨rfl, h2, h3⟩; have HZ2 := Lib.hid h2; have HK2 := Lib.hid h3; clear h2 h3)
    go_ret2
    exact ⟨by rw [HT.out, HW.out]; rfl, by rw [HT.out]; exact HZ2.out, HK2.out⟩
end
end Go.Proofs.Ytikkiifcnjiegaa

/- A queue's Put: its contract. -/
namespace Go.Proofs.Ytikkiifcnjiegaa
set_option linter.unusedVariables false
set_option maxRecDepth 100000
set_option linter.unusedSimpArgs false
open Go.RowKit

/-- One number more, with the place of the new row. -/
theorem wp_int_at {w : World} {ops : Array Oper} {rest : List Oper} {o : Oper} {a : Act} {Q : Exit → Act → World → Prop} (hgd : o.guard = none) (s x : Operand)
    (ho : o.op = .call { callee := .builtin .append, args := #[s, x], argTypes := #[43, 43] }) (L : List Int) (A : Option Addr) (n c : Nat) (hs : a.eval s = .slice A n c) (hn : L.length = n) (hown : OI w 0 A c L)
    (v : Int) (b c' : Nat) (hx : a.eval x = .slice (some ⟨b, 0, none⟩) 1 c') (hb : w.cell? ⟨b, 0, none⟩ = some (.int .i64 v)) (hlen : n ≤ 1048576) (n' : Nat) (hn' : n + 1 = n')
    (h : ∀ g c2 w', Hid (OI w' 0 (some ⟨g, 0, none⟩) c2 (L ++ [v]) ∧ w.grownBy w' (Value.slice A n c).ownBlock ∧ ((Value.slice A n c).ownBlock = some g ∨ g = w.heap.size)) → wpList Try.prog ops Q rest (a.put o.dst (.slice (some ⟨g, 0, none⟩) n' c2)) w') : wpList Try.prog ops Q (o :: rest) a w := by
  obtain ⟨i0, hi1, hz0, hs0, hb0⟩ := info_parts i64_info
  subst hn; subst hn'
  refine wpList_append_own_at w hgd s x 43 ho 0 3 i0 (.int .i64 0) 1 8 Try.underlying43 hi1 hz0 hs0 hb0 rfl (by decide) _ L.length (i64s L) hs hown ⟨b, 0, none⟩ 1 c' [.int .i64 v] hx rfl ?_ (by simp [Value.oneCell']) (by unfold maxLen; omega) (by omega) (Nat.zero_le _) ?_
  · intro j u hu
    have hj : j = 0 := by
      rcases Nat.eq_zero_or_pos j with h0 | h0
      · exact h0
      · rw [List.getElem?_eq_none (by simp; omega)] at hu; cases hu
    subst hj
    simp at hu
    subst hu
    rw [add_plain]
    exact hb
  · intro v' w' hown' hg _ hat
    obtain ⟨g, cap, rfl, _, _⟩ := World.ownsRow.form hown' (by omega)
    refine h g cap w' (Lib.hid ⟨?_, hg, ?_⟩)
    · unfold OI
      rw [List.length_append, show i64s (L ++ [v]) = i64s L ++ [.int .i64 v] by simp]
      exact hown'
    · rcases hat with e1 | e1
      · left; rw [← e1]; rfl
      · right; simpa [Value.ownBlock] using e1

def fup (f : ByteArray → Nat) (s : ByteArray) (v : Nat) : ByteArray → Nat := fun t => if nmQ t s = true then v else f t
theorem fup_same (f : ByteArray → Nat) (s : ByteArray) (v : Nat) : fup f s v s = v := by unfold fup; rw [nmQ_same]; rfl
theorem fup_far {f : ByteArray → Nat} {s t : ByteArray} {v : Nat} (h : t ≠ s) : fup f s v t = f t := by
  unfold fup
  rw [if_neg (fun e => h ((nmQ_iff _ _).1 e))]
section
variable {u u' : World} {qb mr mw : Nat} {ns : List ByteArray} {ad ar cp : ByteArray → Nat} {q : List Qn}
/-- One more waits. -/
theorem Zq.more (h : Zq u qb mr mw ns ad ar cp q) {s : ByteArray} {id : Int} (hput : puQ q s id = (0, q ++ [⟨s, id⟩])) {b g c : Nat} {ns' : List ByteArray} {L : List Nat} (k : Ke L u u') (hL : ∀ y ∈ L, y = mr ∨ y = mw ∨ (s ∈ ns ∧ (y = ad s ∨ y = ar s)))
    (hr : Mq u' mr (ns'.map fun t => (t, fup ad s b t))) (hw : Mi u' mw ((id, b) :: q.map fun x => (x.id, ad x.nm)))
    (hb : Bk u' b 55 (qrc s (some ⟨g, 0, none⟩) (liQ q s ++ [id]).length c)) (ho : OI u' 0 (some ⟨g, 0, none⟩) c (liQ q s ++ [id])) (hns : ∀ t, t ∈ ns' ↔ t ∈ ns ∨ t = s)
    (hbb : (s ∈ ns ∧ b = ad s) ∨ (s ∉ ns ∧ u.heap.size ≤ b)) (hgg : (s ∈ ns ∧ g = ar s) ∨ u.heap.size ≤ g) :
    Zq u' qb mr mw ns' (fup ad s b) (fup ar s g) (fup cp s c) (q ++ [⟨s, id⟩]) ∧ Ke (ftQ qb mr mw ns ad ar) u u' ∧ ∀ y ∈ ftQ qb mr mw ns' (fup ad s b) (fup ar s g), y ∈ ftQ qb mr mw ns ad ar ∨ u.heap.size ≤ y := by
  have hnd : ns'.Nodup := (List.pairwise_map (f := fun t => (t, fup ad s b t)) (R := fun x y : ByteArray × Nat => x.1 ≠ y.1)).1 hr.ids
  have hli : ∀ t, liQ (q ++ [⟨s, id⟩]) t = if nmQ s t = true then liQ q t ++ [id] else liQ q t := fun t => li_app q s t id
  have hcs : ∀ t ∈ ns, ∃ cs, Bk u (ar t) 3 cs := fun t ht => (h.row t ht).2.bk
  have hlt := h.lt
  have hfar : ∀ t ∈ ns, t ≠ s → (∀ y ∈ L, ad t ≠ y) ∧ ∀ y ∈ L, ar t ≠ y := fun t ht hts => by
    obtain ⟨cs, hc⟩ := hcs t ht
    have hrow := (h.row t ht).1
    refine ⟨fun y hy => ?_, fun y hy => ?_⟩
    · rcases hL y hy with rfl | rfl | ⟨hs, rfl | rfl⟩
      · exact bk_map hrow h.mr_.block
      · exact bk_map hrow h.mw_.block
      · exact fun e => hts (h.adr ht hs e)
      · obtain ⟨cs2, hc2⟩ := hcs s hs
        exact bk_ne hrow hc2 (by decide)
    · rcases hL y hy with rfl | rfl | ⟨hs, rfl | rfl⟩
      · exact bk_map hc h.mr_.block
      · exact bk_map hc h.mw_.block
      · exact bk_ne hc (h.row s hs).1 (by decide)
      · exact fun e => hts (h.arr ht hs e)
  refine ⟨⟨h.blk.ke k fun hx => ?_, hr, ?_, fun t ht => ?_, ?_, fun t => ?_, by have := qg_put h.ok s id; rwa [hput] at this, h.two⟩, k.more fun y hy => ?_, fun y hy => ?_⟩
  · rcases hL qb hx with e | e | ⟨hs, e | e⟩
    · exact bk_map h.blk h.mr_.block e
    · exact bk_map h.blk h.mw_.block e
    · exact bk_ne h.blk (h.row s hs).1 (by decide) e
    · obtain ⟨cs2, hc2⟩ := hcs s hs
      exact bk_ne h.blk hc2 (by decide) e
  · refine hw.perm ?_
    rw [List.map_append]
    have e1 : (q.map fun x => (x.id, ad x.nm)) = q.map fun x => (x.id, fup ad s b x.nm) := List.map_congr_left fun x hx => by
      by_cases e : x.nm = s
      · rw [e, fup_same]
        rcases hbb with ⟨_, e2⟩ | ⟨e2, _⟩
        · rw [e2]
        · exact absurd (h.has hx) (by rw [e]; exact e2)
      · rw [fup_far e]
    rw [e1, List.map_cons, List.map_nil]
    dsimp only
    rw [fup_same]
    exact (List.perm_append_comm (l₁ := [(id, b)]) (l₂ := q.map fun x => (x.id, fup ad s b x.nm)))
  · by_cases e : t = s
    · subst e
      rw [fup_same, fup_same, fup_same, hli, nmQ_same]
      exact ⟨hb, ho⟩
    · have ht2 : t ∈ ns := ((hns t).1 ht).resolve_right e
      rw [fup_far e, fup_far e, fup_far e, hli, if_neg (fun hh => e ((nmQ_iff _ _).1 hh).symm)]
      refine ⟨(h.row t ht2).1.ke k fun hx => (hfar t ht2 e).1 _ hx rfl, (h.row t ht2).2.keep fun g2 cs2 hg2 hh => hh.ke k fun hx => ?_⟩
      simp [Value.ownBlock] at hg2
      subst hg2
      exact (hfar t ht2 e).2 _ hx rfl
  · refine List.Pairwise.imp_of_mem (R := fun a b : ByteArray => a ≠ b) (fun {x y} hx hy hne => ?_) hnd
    have hg : ∀ t ∈ ns', t ≠ s → ar t ≠ g := fun t ht hts => by
      have ht2 : t ∈ ns := ((hns t).1 ht).resolve_right hts
      rcases hgg with ⟨hs, e⟩ | e
      · rw [e]; exact fun e2 => hts (h.arr ht2 hs e2)
      · have := hlt (ar t) (mem_ftQ.2 (.inr (.inr (.inr (.inr ⟨t, ht2, rfl⟩)))))
        omega
    by_cases e : x = s
    · subst e
      rw [fup_same, fup_far hne.symm]
      exact (hg y hy hne.symm).symm
    · by_cases e2 : y = s
      · subst e2
        rw [fup_same, fup_far e]
        exact hg x hx e
      · rw [fup_far e, fup_far e2]
        exact fun e3 => hne (h.arr (((hns x).1 hx).resolve_right e) (((hns y).1 hy).resolve_right e2) e3)
  · rw [hns, h.names]
    constructor
    · rintro (⟨x, hx, e⟩ | rfl)
      · exact ⟨x, List.mem_append_left _ hx, e⟩
      · exact ⟨⟨t, id⟩, List.mem_append_right _ (List.mem_cons_self ..), rfl⟩
    · rintro ⟨x, hx, e⟩
      rcases List.mem_append.1 hx with hx | hx
      · exact .inl ⟨x, hx, e⟩
      · obtain rfl := List.mem_singleton.1 hx
        exact .inr e.symm
  · rcases hL y hy with rfl | rfl | ⟨hs, rfl | rfl⟩
    · exact mem_ftQ.2 (.inr (.inl rfl))
    · exact mem_ftQ.2 (.inr (.inr (.inl rfl)))
    · exact mem_ftQ.2 (.inr (.inr (.inr (.inl ⟨s, hs, rfl⟩))))
    · exact mem_ftQ.2 (.inr (.inr (.inr (.inr ⟨s, hs, rfl⟩))))
  · rcases mem_ftQ.1 hy with rfl | rfl | rfl | ⟨t, ht, rfl⟩ | ⟨t, ht, rfl⟩
    · exact .inl (mem_ftQ.2 (.inl rfl))
    · exact .inl (mem_ftQ.2 (.inr (.inl rfl)))
    · exact .inl (mem_ftQ.2 (.inr (.inr (.inl rfl))))
    · by_cases e : t = s
      · subst e
        rw [fup_same]
        rcases hbb with ⟨hs, e⟩ | ⟨_, e⟩
        · exact .inl (mem_ftQ.2 (.inr (.inr (.inr (.inl ⟨t, hs, e.symm⟩)))))
        · exact .inr e
      · rw [fup_far e]
        exact .inl (mem_ftQ.2 (.inr (.inr (.inr (.inl ⟨t, ((hns t).1 ht).resolve_right e, rfl⟩)))))
    · by_cases e : t = s
      · subst e
        rw [fup_same]
        rcases hgg with ⟨hs, e⟩ | e
        · exact .inl (mem_ftQ.2 (.inr (.inr (.inr (.inr ⟨t, hs, e.symm⟩)))))
        · exact .inr e
      · rw [fup_far e]
        exact .inl (mem_ftQ.2 (.inr (.inr (.inr (.inr ⟨t, ((hns t).1 ht).resolve_right e, rfl⟩)))))
end
end Go.Proofs.Ytikkiifcnjiegaa
