/- heap's Push, Fix and Remove. -/
import Derived.Test.YtdfllobdefodfaaCk5
namespace Go.Proofs.Ytdfllobdefodfaa
set_option linter.unusedVariables false
set_option linter.unusedSimpArgs false
open Go.RowKit

variable {u : World} {F : List Nat} {c : Nat} {now : Int} {mb : Nat} {A : Option Addr} {cap : Nat} {l : List Al}

/-- Push, at an operation. -/
theorem wp_rpush {ops : Array Oper} {rest : List Oper} {o : Oper} {a : Act} {Q : Exit → Act → World → Prop} {w : World} (hw : Region.wanted o (yielded ops a.tmps) = true) (recv x : Operand)
    (ho : o.op = .call { callee := .invoke recv "Push", args := #[x], argTypes := #[20] }) (hr : a.eval recv = hpv c) (y : Al) (hx : a.eval x = .iface 61 (ptr y.b))
    (h : Hp w F c now mb A cap l) (hl : l.length ≤ 1024) (k : Nat) (hy : Bk w y.b 65 (acells y k)) (hfr : ∀ i, i < l.length → (nth l i).b ≠ y.b)
    (hK : ∀ w' g cap', Hp w' (y.b :: g :: F) c now mb (some ⟨g, 0, none⟩) cap' (l ++ [y]) → Ke (y.b :: F) w w' → (g ∈ F ∨ w.heap.size ≤ g) → wpList Try.prog ops Q rest (a.put o.dst (.tuple #[])) w') : wpList Try.prog ops Q (o :: rest) a w := by
  refine wpList_invoke hw recv "Push" #[x] _ ho _ _ hr _ _ (m_push c w) #[.pointer (some ⟨c, 2, none⟩), .iface 61 (ptr y.b)] (by simp [hx]) (cf_push _ _) (rpush_ok w h hl y k hy hfr) ?_
  rintro e w' ⟨rfl, g, cap', h1, h2, h3⟩
  exact ⟨_, rfl, hK w' g cap' h1 h2 h3⟩
/-- Pop, at an operation. -/
theorem wp_rpop {ops : Array Oper} {rest : List Oper} {o : Oper} {a : Act} {Q : Exit → Act → World → Prop} {w : World} (hw : Region.wanted o (yielded ops a.tmps) = true) (recv : Operand)
    (ho : o.op = .call { callee := .invoke recv "Pop", args := #[], argTypes := #[] }) (hr : a.eval recv = hpv c) (h : Hp w F c now mb A cap l) (m : Nat) (hm : l.length = m + 1) (b : Nat) (hb : (nth l m).b = b)
    (hK : ∀ w', Hp w' F c now mb A cap (l.take m) → Ke F w w' → Bk w' (nth l m).b 65 (acells (nth l m) m) → wpList Try.prog ops Q rest (a.put o.dst (.iface 61 (ptr b))) w') : wpList Try.prog ops Q (o :: rest) a w := by
  refine wpList_invoke hw recv "Pop" #[] _ ho _ _ hr _ _ (m_pop c w) #[.pointer (some ⟨c, 2, none⟩)] (by simp) (cf_pop _ _) (rpop_ok w h m hm) ?_
  rintro e w' ⟨rfl, h1, h2, h3⟩
  exact ⟨_, rfl, hb ▸ hK w' h1 h2 h3⟩

/-- What Push leaves: a heap of one more. -/
structure HpushPost (u : World) (F : List Nat) (c : Nat) (now : Int) (mb : Nat) (l : List Al) (x : Al) (e : Ending) (u' : World) : Prop where
  e : e = .returned (.tuple #[])
  ex : ∃ F' A' cap' l', Hp u' F' c now mb A' cap' l' ∧ l'.Perm (l ++ [x]) ∧ HeapN l' l'.length ∧ Ke (x.b :: F) u u' ∧ (∀ y ∈ F', y ∈ x.b :: F ∨ (u.heap.size ≤ y ∧ y < u'.heap.size)) ∧ (∀ y ∈ x.b :: F, y ∈ F')

theorem Ke.grow {F : List Nat} {u w1 w2 : World} {b g : Nat} (h1 : Ke (b :: F) u w1) (h2 : Ke (b :: g :: F) w1 w2) (hg : g ∈ F ∨ u.heap.size ≤ g) : Ke (b :: F) u w2 := by
  have h3 : Ke (g :: b :: F) u w2 := (h1.more (by intro x hx; simp at hx ⊢; rcases hx with h | h <;> simp [h])).trans (h2.more (by intro x hx; simp at hx ⊢; rcases hx with h | h | h <;> simp [h]))
  rcases hg with hg | hg
  · exact h3.more (by intro x hx; simp at hx ⊢; rcases hx with h | h | h <;> simp [h, hg])
  · exact h3.new hg

set_option maxRecDepth 100000 in
set_option maxHeartbeats 4000000 in
theorem hpush_ok (u : World) (h : Hp u F c now mb A cap l) (hl : l.length ≤ 1024) (hh : HeapN l l.length) (x : Al) (k : Nat) (hx : Bk u x.b 65 (acells x k)) (hfr : ∀ i, i < l.length → (nth l i).b ≠ x.b) :
    Calls Try.prog 27 #[hpv c, .iface 61 (ptr x.b)] u (HpushPost u F c now mb l x) := by
  have H := Lib.hid (And.intro h (And.intro hl (And.intro hx hfr)))
  have HUP := Lib.hid (hh.up x)
  obtain ⟨n, hn⟩ : ∃ n, n = l.length := ⟨_, rfl⟩
  have HN := Lib.hid hn
  have hn1 : ((n : Int) + 1) - 1 = (n : Int) := by omega
  have hn4 : n ≤ 1024 := by omega
  obtain ⟨n1, hn1e⟩ : ∃ n1, n1 = n + 1 := ⟨_, rfl⟩
  have hn2 : (n1 : Int) - 1 = (n : Int) := by omega
  have HN1 := Lib.hid hn1e
  clear h hl hx hfr hh hn hn1 hn1e
  go_enter Try.func27, Try.ntmps27
  go_wp2_with (first
    | (refine wp_rpush (by kernel_rfl) (.tmp 4) (.tmp 5) rfl rfl x rfl H.out.1 H.out.2.1 k H.out.2.2.1 H.out.2.2.2 ?_; intro w1 g cap' h1 h2 h3; have H1 := Lib.hid (And.intro h1 (And.intro h2 h3)); clear h1 h2 h3)
    | (refine wp_len (by kernel_rfl) (.tmp 8) rfl rfl H1.out.1 n1 (by rw [List.length_append, HN1.out, HN.out]; rfl) ?_)
    | (go_at_call 30; refine (up_ok _ H1.out.1 n n1 (by rw [List.length_append, HN1.out, HN.out]; exact Nat.le_refl _) (by have := HN1.out; omega) (by have := HUP.out; rw [← HN.out, ← HN1.out] at this; exact this)).mono ?_; rintro e w2 ⟨rfl, l', k1, k2, k3⟩; have H2 := Lib.hid (And.intro k1 (And.intro k2 k3)); clear k1 k2 k3))
  go_returns
  obtain ⟨k1, k2, _⟩ := H2.out
  obtain ⟨h1, h2, h3⟩ := H1.out
  refine ⟨rfl, x.b :: g :: F, _, _, l', k1.h, k1.p, ?_, h2.grow k1.k h3, fun y hy => ?_, fun y hy => ?_⟩
  · have := k1.p.length_eq
    rw [List.length_append, ← HN.out] at this
    rw [this]
    have e := HN1.out
    rw [e] at k2
    exact k2
  · simp at hy ⊢
    rcases hy with hy | hy | hy
    · exact .inl (.inl hy)
    · rcases h3 with h3 | h3
      · exact .inl (.inr (hy ▸ h3))
      · refine .inr ⟨hy ▸ h3, ?_⟩
        rcases h1.row with ⟨e, _⟩ | ⟨g', cur, e1, _, e3, _⟩
        · cases e
        · injection e1 with e1
          injection e1 with e1
          subst e1
          rw [hy]
          exact Nat.lt_of_lt_of_le e3.lt k1.k.size
    · exact .inl (.inr hy)
  · simp at hy ⊢
    rcases hy with hy | hy <;> simp [hy]

set_option maxRecDepth 100000 in
set_option maxHeartbeats 4000000 in
theorem hfix_ok (u : World) (h : Hp u F c now mb A cap l) (i n : Nat) (hn : l.length = n) (hi : i < n) (hd : DnInv l n i i) :
    Calls Try.prog 26 #[hpv c, .int .i64 (i : Int)] u fun e u' => e = .returned (.tuple #[]) ∧ ∃ l', Kp u u' F c now mb A cap l l' ∧ HeapN l' n := by
  have H := Lib.hid (And.intro h hd)
  have HN := Lib.hid hn
  have hn4 : n ≤ 1025 := hn ▸ h.few
  clear h hd hn
  go_enter Try.func26, Try.ntmps26
  go_upto_region 1 with (first
    | (refine wp_len (by kernel_rfl) (.tmp 6) rfl rfl H.out.1 n HN.out ?_)
    | (go_at_call 29; refine (down_ok _ H.out.1 i n (by rw [HN.out]; exact Nat.le_refl _) hi H.out.2).mono ?_; rintro e w1 ⟨b, l1, rfl, k1, k2, k3, k4⟩; have H1 := Lib.hid (And.intro k1 (And.intro k3 k4)); clear k1 k2 k3 k4))
  · have hb : b = false := by simpa using ‹(!b) = true›
    have HUP := Lib.hid (H1.out.2.2 hb)
    subst hb
    go_wp2_with (first
      | (go_at_call 30; refine (up_ok _ H1.out.1.h i n (by rw [H1.out.1.p.length_eq, HN.out]; exact Nat.le_refl _) hi HUP.out).mono ?_; rintro e w2 ⟨rfl, l2, k1, k2, k3⟩; have H2 := Lib.hid (And.intro k1 k2); clear k1 k2 k3))
    go_returns
    obtain ⟨k1, k2⟩ := H2.out
    exact ⟨rfl, l2, ⟨k1.h, k1.p.trans H1.out.1.p, H1.out.1.k.trans k1.k⟩, k2⟩
  · have hb : b = true := by simpa using ‹(!b) = false›
    go_returns
    exact ⟨rfl, l1, H1.out.1, H1.out.2.1 hb⟩

/-- What Remove leaves. -/
structure HremPost (u : World) (F : List Nat) (c : Nat) (now : Int) (mb : Nat) (A : Option Addr) (cap : Nat) (l : List Al) (x : Al) (m : Nat) (e : Ending) (u' : World) : Prop where
  e : e = .returned (.iface 61 (ptr x.b))
  ex : ∃ l' k, Hp u' F c now mb A cap l' ∧ l.Perm (x :: l') ∧ HeapN l' m ∧ l'.length = m ∧ Ke F u u' ∧ Bk u' x.b 65 (acells x k)

theorem take_perm {l : List Al} {m : Nat} (hm : l.length = m + 1) : l.Perm (nth l m :: l.take m) := by
  have e : l = l.take m ++ [nth l m] := by
    apply List.ext_getElem
    · simp [hm]
    · intro i h1 h2
      by_cases hi : i < m
      · rw [List.getElem_append_left (by rw [List.length_take]; omega), List.getElem_take]
      · have : i = m := by omega
        subst this
        rw [List.getElem_append_right (by rw [List.length_take]; omega), nth_getElem h1]
        simp
  have h1 : (l.take m ++ [nth l m]).Perm (nth l m :: l.take m) := List.perm_append_singleton _ _
  rw [← e] at h1
  exact h1

theorem rem_end {w w' : World} {l3 : List Al} {x : Al} {m : Nat} (hp : l3.Perm l) (hm : l.length = m + 1) (hh : HeapN l3 m) (hx : nth l3 m = x) (h1 : Hp w' F c now mb A cap (l3.take m)) (h2 : Ke F w w') (h3 : Bk w' (nth l3 m).b 65 (acells (nth l3 m) m)) (h0 : Ke F u w) :
    HremPost u F c now mb A cap l x m (.returned (.iface 61 (ptr x.b))) w' := by
  subst hx
  have e := hp.length_eq
  exact ⟨rfl, _, _, h1, hp.symm.trans (take_perm (by omega)), hh.congr (fun k hk => nth_take hk), by rw [List.length_take]; omega, h0.trans h2, h3⟩

set_option maxRecDepth 100000 in
set_option maxHeartbeats 8000000 in
theorem hrem_ok (u : World) (h : Hp u F c now mb A cap l) (i m : Nat) (hm : l.length = m + 1) (hi : i ≤ m) (hh : HeapN l (m + 1)) :
    Calls Try.prog 28 #[hpv c, .int .i64 (i : Int)] u (HremPost u F c now mb A cap l (nth l i) m) := by
  have hn4 : m ≤ 1025 := by have := h.few; omega
  obtain ⟨n, hn⟩ : ∃ n, n = m + 1 := ⟨_, rfl⟩
  have hn2 : (n : Int) - 1 = (m : Int) := by omega
  have H := Lib.hid (And.intro h hm)
  have HN := Lib.hid hn
  by_cases him : m = i
  · subst him
    have HP := Lib.hid (show l.Perm (nth l m :: l.take m) ∧ HeapN (l.take m) m ∧ (l.take m).length = m from
      ⟨take_perm hm, (hh.less (by omega)).congr (fun k hk => nth_take hk), by rw [List.length_take]; omega⟩)
    clear h hh hm hn hi
    go_enter Try.func28, Try.ntmps28
    go_wp2_with (first
      | (refine wp_len (by kernel_rfl) (.tmp 6) rfl rfl H.out.1 n (by rw [H.out.2, HN.out]) ?_)
      | (refine wp_rpop (by kernel_rfl) (.tmp 24) rfl rfl H.out.1 m H.out.2 _ rfl ?_; intro w1 h1 h2 h3; have H1 := Lib.hid (And.intro h1 (And.intro h2 h3)); clear h1 h2 h3))
    go_ret
    exact ⟨rfl, _, _, H1.out.1, HP.out.1, HP.out.2.1, HP.out.2.2, H1.out.2.1, H1.out.2.2⟩
  · have him2 : ¬ ((m : Int) = (i : Int)) := by omega
    have hbe : ((m : Int) == (i : Int)) = false := by simp; omega
    have hlt : i < m := by omega
    have HD := Lib.hid (show DnInv (swp l i m) m i i ∧ (swp l i m).Perm l ∧ nth (swp l i m) m = nth l i ∧ m ≤ (swp l i m).length from by
      refine ⟨((hh.less (Nat.le_succ m)).dn (by omega) (by omega) (nth l m)).congr hlt (fun k hk => ?_), swp_perm (by omega) (by omega), ?_, by rw [swp_length]; omega⟩
      · rw [nth_swp (by omega) (by omega), if_neg (by omega), nth_set _ (by omega)]
      · rw [nth_swp (by omega) (by omega), if_pos rfl])
    obtain ⟨x, hx⟩ : ∃ x, x = nth l i := ⟨_, rfl⟩
    have HX := Lib.hid hx
    rw [← hx]
    clear h hh hm hn hi hx
    go_enter Try.func28, Try.ntmps28
    go_upto_region 5 with (first
      | (refine wp_len (by kernel_rfl) (.tmp 6) rfl rfl H.out.1 n (by rw [H.out.2, HN.out]) ?_)
      | (refine wp_swap (by kernel_rfl) (.tmp 12) (.tmp 13) (.tmp 14) rfl rfl i m rfl rfl H.out.1 (by have := H.out.2; omega) (by have := H.out.2; omega) (by omega) ?_; intro w1 h1 h2; have H1 := Lib.hid (And.intro h1 h2); clear h1 h2)
      | (go_at_call 29; refine (down_ok _ H1.out.2 i m HD.out.2.2.2 hlt HD.out.1).mono ?_; rintro e w2 ⟨b, l2, rfl, k1, k2, k3, k4⟩; have H2 := Lib.hid (And.intro k1 (And.intro k2 (And.intro k3 k4))); clear k1 k2 k3 k4))
    · have hb : b = false := by simpa using ‹(!b) = true›
      have HUP := Lib.hid (H2.out.2.2.2 hb)
      subst hb
      go_wp2_with (first
        | (go_at_call 30; refine (up_ok _ H2.out.1.h i m (by rw [H2.out.1.p.length_eq]; exact HD.out.2.2.2) hlt HUP.out).mono ?_; rintro e w3 ⟨rfl, l3, k1, k2, k3⟩; have H3 := Lib.hid (And.intro k1 (And.intro k2 k3)); have HLEN := Lib.hid (show l3.length = m + 1 from by rw [k1.p.length_eq, H2.out.1.p.length_eq, HD.out.2.1.length_eq]; exact H.out.2); have HXM := Lib.hid (show nth l3 m = x from by rw [k3 m (Nat.le_refl _), H2.out.2.1 m (Nat.le_refl _), HD.out.2.2.1]; exact HX.out.symm); clear k1 k2 k3)
        | (refine wp_rpop (by kernel_rfl) (.tmp 24) rfl rfl H3.out.1.h m HLEN.out x.b (by rw [HXM.out]) ?_; intro w4 h1 h2 h3; have H4 := Lib.hid (And.intro h1 (And.intro h2 h3)); clear h1 h2 h3))
      go_ret
      exact rem_end ((H3.out.1.p.trans H2.out.1.p).trans HD.out.2.1) H.out.2 H3.out.2.1 HXM.out H4.out.1 H4.out.2.1 H4.out.2.2 ((H1.out.1.trans H2.out.1.k).trans H3.out.1.k)
    · have hb : b = true := by simpa using ‹(!b) = false›
      have HLEN : l2.length = m + 1 := by rw [H2.out.1.p.length_eq, HD.out.2.1.length_eq]; exact H.out.2
      have HXM : nth l2 m = x := by rw [H2.out.2.1 m (Nat.le_refl _), HD.out.2.2.1]; exact HX.out.symm
      have HXB := Lib.hid (congrArg Al.b HXM)
      have HX2 := Lib.hid (And.intro HLEN HXM)
      clear HLEN HXM
      refine (rpop_ok w2 H2.out.1.h m HX2.out.1).mono ?_
      rw [HXB.out]
      rintro e w3 ⟨rfl, h1, h2, h3⟩
      have H4 := Lib.hid (And.intro h1 (And.intro h2 h3))
      clear h1 h2 h3
      go_wp2_with fail
      go_ret
      refine rem_end (H2.out.1.p.trans HD.out.2.1) H.out.2 (H2.out.2.2.1 hb) HX2.out.2 H4.out.1 H4.out.2.1 ?_ (H1.out.1.trans H2.out.1.k)
      rw [HXB.out]
      exact H4.out.2.2
end Go.Proofs.Ytdfllobdefodfaa
