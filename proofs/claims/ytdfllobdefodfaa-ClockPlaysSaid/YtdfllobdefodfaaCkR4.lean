/- The document's own clock: Tick. -/
import Derived.Test.YtdfllobdefodfaaCkR2
import Derived.BigQuiet
namespace Go.Proofs.Ytdfllobdefodfaa
set_option linter.unusedVariables false
set_option linter.unusedSimpArgs false
open Go.RowKit

theorem one_here {w : World} {n : Nat} {v : Value} {t : TypeId} (h : n = w.heap.size) : (w.alloc (.cells #[v] t)).cell? ⟨n, 0, none⟩ = some v := by rw [(Bk.here h).cell]; rfl
theorem two_here {w : World} {n : Nat} {v v' : Value} {t : TypeId} (h : n = w.heap.size) : (w.alloc (.cells #[v, v'] t)).cell? ⟨n, 0, none⟩ = some v ∧ (w.alloc (.cells #[v, v'] t)).cell? ⟨n, 1, none⟩ = some v' := ⟨by rw [(Bk.here h).cell]; rfl, by rw [(Bk.here h).cell]; rfl⟩
/-- All blocks of rows of another type than τ are as they were. -/
def Kt (τ : TypeId) (w w' : World) : Prop := ∀ b t cs, Bk w b t cs → t ≠ τ → Bk w' b t cs
theorem OI.kt {w w' : World} {B : Nat} {A : Option Addr} {c : Nat} {L : List Int} (h : OI w B A c L) (k : Kt 68 w w') : OI w' B A c L := by
  refine ⟨h.1, ?_⟩
  rcases h.2 with hn | ⟨g, cap, cur, hv, hg, hh, r⟩
  · exact .inl hn
  · exact .inr ⟨g, cap, cur, hv, hg, k g _ _ hh (by decide), r⟩
theorem OA.kt {w w' : World} {B : Nat} {A : Option Addr} {c : Nat} {L : List Ky} (h : OA w B A c L) (k : Kt 3 w w') : OA w' B A c L := by
  refine ⟨h.1, ?_⟩
  rcases h.2 with hn | ⟨g, cap, cur, hv, hg, hh, r⟩
  · exact .inl hn
  · exact .inr ⟨g, cap, cur, hv, hg, k g _ _ hh (by decide), r⟩
theorem kt_alloc (τ : TypeId) (w : World) (o : Obj) : Kt τ w (w.alloc o) := fun b t cs h _ => h.alloc o
theorem Kt.trans {τ : TypeId} {a b c : World} (h : Kt τ a b) (k : Kt τ b c) : Kt τ a c := fun x t cs hx ht => k x t cs (h x t cs hx ht) ht
theorem kt_grown {τ : TypeId} {w w' : World} {v : Value} {B : Nat} {size n : Nat} {xs : List Value} (hown : w.ownsRow B τ size v n xs) (hg : w.grownBy w' v.ownBlock) : Kt τ w w' := fun b t cs hb ht => by
  refine (hg.block b hb.lt (fun e => ?_)).trans hb
  rcases hown.2 with ⟨hv, _⟩ | ⟨g, cap, cur, hv, _, hh, _⟩
  · rw [hv] at e; cases e
  · rw [hv] at e
    simp [Value.ownBlock] at e
    subst e
    exact ht (Bk.type hb hh)

/-- One number more; rows of other types are as they were. -/
theorem wp_app_int2 {ops : Array Oper} {rest : List Oper} {o : Oper} {a : Act} {Q : Exit → Act → World → Prop} {w : World} (hgd : o.guard = none) (s x : Operand)
    (ho : o.op = .call { callee := .builtin .append, args := #[s, x], argTypes := #[31, 31] }) (B : Nat) (L : List Int) (A : Option Addr) (n c : Nat) (hs : a.eval s = .slice A n c) (hn : L.length = n) (hown : OI w B A c L)
    (v : Int) (b : Nat) (hx : a.eval x = .slice (some ⟨b, 0, none⟩) 1 1) (hb : w.cell? ⟨b, 0, none⟩ = some (.int .i64 v)) (hlen : n ≤ 1048576) (hbase : B ≤ w.heap.size) (n' : Nat) (hn' : n' = n + 1)
    (h : ∀ A2 c2 w', OI w' B A2 c2 (L ++ [v]) → Below B w w' → Kt 3 w w' → wpList Try.prog ops Q rest (a.put o.dst (.slice A2 n' c2)) w') : wpList Try.prog ops Q (o :: rest) a w := by
  obtain ⟨i0, hi1, hz0, hs0, hb0⟩ := info_parts i64_info
  subst hn
  subst hn'
  refine wpList_append_own w hgd s x 31 ho B 3 i0 (.int .i64 0) 1 8 Try.underlying31 hi1 hz0 hs0 hb0 rfl (by decide) _ L.length (i64s L) hs hown ⟨b, 0, none⟩ 1 1 [.int .i64 v] hx rfl ?_ (by simp [Value.oneCell']) (by unfold maxLen; omega) (by omega) hbase ?_
  · intro j u hu
    have hj : j = 0 := by
      rcases Nat.eq_zero_or_pos j with h0 | h0
      · exact h0
      · rw [List.getElem?_eq_none (by simp; omega)] at hu; cases hu
    subst hj
    simp at hu
    subst hu
    rw [add_plain]
    exact hb
  · intro v' w' hown' hg _
    have hbel : Below B w w' := (Below.refl B w).grown hg hbase (fun k hk => (World.ownsRow.lt hown k hk).1)
    have hp : 0 < L.length + 1 := by omega
    obtain ⟨g, cap, rfl, _, _⟩ := World.ownsRow.form hown' hp
    refine h (some ⟨g, 0, none⟩) cap w' ?_ hbel (kt_grown hown hg)
    unfold OI
    rw [List.length_append, show i64s (L ++ [v]) = i64s L ++ [.int .i64 v] by simp]
    exact hown'
/-- One alarm more; rows of other types are as they were. -/
theorem wp_app_al2 {ops : Array Oper} {rest : List Oper} {o : Oper} {a : Act} {Q : Exit → Act → World → Prop} {w : World} (hgd : o.guard = none) (s x : Operand)
    (ho : o.op = .call { callee := .builtin .append, args := #[s, x], argTypes := #[40, 40] }) (B : Nat) (L : List Ky) (A : Option Addr) (n c : Nat) (hs : a.eval s = .slice A n c) (hn : L.length = n) (hown : OA w B A c L)
    (y : Ky) (b : Nat) (hx : a.eval x = .slice (some ⟨b, 0, none⟩) 1 1) (hb : w.cell? ⟨b, 0, none⟩ = some (.int .i64 y.1) ∧ w.cell? ⟨b, 1, none⟩ = some (.int .i64 y.2)) (hlen : n ≤ 1048576) (hbase : B ≤ w.heap.size) (n' : Nat) (hn' : n' = n + 1)
    (h : ∀ A2 c2 w', OA w' B A2 c2 (L ++ [y]) → Below B w w' → Kt 68 w w' → wpList Try.prog ops Q rest (a.put o.dst (.slice A2 n' c2)) w') : wpList Try.prog ops Q (o :: rest) a w := by
  obtain ⟨i0, hi1, hz0, hs0, hb0⟩ := info_parts al2_info
  subst hn
  subst hn'
  refine wpList_append_own w hgd s x 40 ho B 68 i0 (.agg #[.int .i64 0, .int .i64 0]) 2 16 Try.underlying40 hi1 hz0 hs0 hb0 rfl (by decide) _ L.length (alc L) hs hown ⟨b, 0, none⟩ 1 1 [.int .i64 y.1, .int .i64 y.2] hx rfl ?_ (by simp [Value.oneCell']) (by unfold maxLen; omega) (by omega) hbase ?_
  · intro j u hu
    rw [add_plain]
    match j, hu with
    | 0, hu => simp at hu; subst hu; exact hb.1
    | 1, hu => simp at hu; subst hu; exact hb.2
    | j + 2, hu => simp at hu
  · intro v' w' hown' hg _
    have hbel : Below B w w' := (Below.refl B w).grown hg hbase (fun k hk => (World.ownsRow.lt hown k hk).1)
    have hp : 0 < L.length + 1 := by omega
    obtain ⟨g, cap, rfl, _, _⟩ := World.ownsRow.form hown' hp
    refine h (some ⟨g, 0, none⟩) cap w' ?_ hbel (kt_grown hown hg)
    unfold OA
    rw [List.length_append, alc_append]
    exact hown'

theorem go_take {nw : Int} {L : List Ky} {i : Nat} {y : Ky} (hy : L[i]? = some y) :
    (y.2 ≤ nw → goM nw (L.take (i + 1)) = goM nw (L.take i) ++ [y.1] ∧ stayM nw (L.take (i + 1)) = stayM nw (L.take i)) ∧ (¬ y.2 ≤ nw → goM nw (L.take (i + 1)) = goM nw (L.take i) ∧ stayM nw (L.take (i + 1)) = stayM nw (L.take i) ++ [y]) := by
  have hi : i < L.length := (List.getElem?_eq_some_iff.1 hy).1
  have he : L[i] = y := (List.getElem?_eq_some_iff.1 hy).2
  rw [List.take_succ_eq_append_getElem hi, he]
  unfold goM stayM
  constructor
  · intro h
    simp [List.filter_append, h]
  · intro h
    simp [List.filter_append, h]
theorem take_le (nw : Int) (L : List Ky) (i : Nat) : (goM nw (L.take i)).length ≤ i ∧ (stayM nw (L.take i)).length ≤ i := by
  have h1 : (L.take i).length ≤ i := by rw [List.length_take]; omega
  exact ⟨Nat.le_trans (go_length_le _ _) h1, Nat.le_trans (List.length_filter_le _ _) h1⟩

/-- What Tick's loop keeps. -/
structure RTk (u wr : World) (s : Nat) (A : Option Addr) (n cp : Nat) (nw : Int) (S : List Ky) (i : Nat) (A1 : Option Addr) (k1 c1 : Nat) (A2 : Option Addr) (k2 c2 : Nat) : Prop where
  l1 : (goM nw (S.take i)).length = k1
  l2 : (stayM nw (S.take i)).length = k2
  o1 : OI wr u.heap.size A1 c1 (goM nw (S.take i))
  o2 : OA wr u.heap.size A2 c2 (stayM nw (S.take i))
  bk : Bk wr s 42 (rcl A n cp nw)
  b : Ke [s] u wr
theorem RTk.ke {u wr w' : World} {s : Nat} {A : Option Addr} {n cp : Nat} {nw : Int} {S : List Ky} {i : Nat} {A1 : Option Addr} {k1 c1 : Nat} {A2 : Option Addr} {k2 c2 : Nat} (h : RTk u wr s A n cp nw S i A1 k1 c1 A2 k2 c2) (k : Ke [] wr w') : RTk u w' s A n cp nw S i A1 k1 c1 A2 k2 c2 :=
  ⟨h.l1, h.l2, h.o1.ke k (by simp), h.o2.ke k (by simp), h.bk.ke k (by simp), h.b.trans k.nil⟩

/-- What Tick leaves. -/
structure RTickPost (u : World) (K : List Nat) (s : Nat) (now : Int) (S : List Ky) (n : Int) (e : Ending) (u' : World) : Prop where
  bad : (n < 0 ∨ 1099511627776 - now < n) → e = .returned (.tuple #[.slice none 0 0, .int .i64 1]) ∧ Rk u' K s now S
  fine : ¬ (n < 0 ∨ 1099511627776 - now < n) → ∃ A cp, e = .returned (.tuple #[.slice A (goM (now + n) S).length cp, .int .i64 0]) ∧ OI u' u.heap.size A cp (goM (now + n) S) ∧ Rk u' K s (now + n) (stayM (now + n) S)
  k : Ke [s] u u'

set_option maxRecDepth 100000 in
set_option maxHeartbeats 8000000 in
theorem rtick_ok (u : World) {K : List Nat} {s : Nat} {now : Int} {S : List Ky} (h : Rk u K s now S) (n : Int) (hn : Wf n) :
    Calls Try.prog 15 #[.pointer (some ⟨s, 0, none⟩), .int .i64 n] u (RTickPost u K s now S n) := by
  have H := Lib.hid h
  have ht0 := h.t0
  have ht1 := h.t1
  have h6 := h.few
  have hex := h.ex
  obtain ⟨A, cp, h1, h2, h3, h4, h5⟩ := hex
  have HR := Lib.hid (And.intro h1 h2)
  obtain ⟨c0, c1⟩ := h1.cells2
  have f1 := h1.frozen 1
  obtain ⟨m, hm⟩ : ∃ m, m = S.length := ⟨_, rfl⟩
  have HM := Lib.hid hm
  rw [← hm] at c0 h6
  clear h1 h2 h3 h4 h5 h
  by_cases hneg : n < 0
  · clear hm
    go_enter Try.func15, Try.ntmps15
    go_wp2_with fail
    go_returns
    exact ⟨fun _ => ⟨rfl, H.out⟩, fun hh => absurd (.inl hneg) hh, Ke.refl _ _⟩
  · have hd : decide (n < 0) = false := by simp; omega
    by_cases hbig : 1099511627776 - now < n
    · clear hm
      go_enter Try.func15, Try.ntmps15
      go_wp2_with fail
      go_returns
      exact ⟨fun _ => ⟨rfl, H.out⟩, fun hh => absurd (.inr hbig) hh, Ke.refl _ _⟩
    · have hd2 : decide (1099511627776 - now < n) = false := by simp; omega
      obtain ⟨nw, hnw⟩ : ∃ nw, nw = now + n := ⟨_, rfl⟩
      have hq : now + n = nw := hnw.symm
      have HNW := Lib.hid (show nw = now + n ∧ ¬ (n < 0 ∨ 1099511627776 - now < n) from ⟨hnw, by omega⟩)
      have hnw0 : 0 ≤ nw := by omega
      have hnw1 : nw ≤ 1099511627776 := by omega
      have HST := Lib.hid (show RTk u (u.setCell ⟨s, 1, none⟩ (.int .i64 nw)) s A m cp nw S 0 none 0 0 none 0 0 from
        ⟨rfl, rfl, OI.nil _ _, OA.nil _ _, hm ▸ HR.out.1.set 1 _, (Ke.refl _ _).set (p := ⟨s, 1, none⟩) (by simp) _⟩)
      have HRD := Lib.hid (show ∀ w, Ke [s] u w → Ra w (s :: K) A S from fun w k => HR.out.2.keep k (by simp))
      clear hnw hm
      go_enter Try.func15, Try.ntmps15
      go_wp2_with fail
      go_loopw [6, 7, 8] (fun v6 v7 v8 wx => ∃ (i : Nat) (A1 : Option Addr) (k1 c1 : Nat) (A2 : Option Addr) (k2 c2 : Nat), i ≤ m ∧ v8 = .int .i64 (i : Int) ∧ v6 = .slice A1 k1 c1 ∧ v7 = .slice A2 k2 c2 ∧ Hid (RTk u wx s A m cp nw S i A1 k1 c1 A2 k2 c2)) (fun _ _ v8 _ => m - (intOf v8).toNat)
      case atStart => exact ⟨0, none, 0, 0, none, 0, 0, by omega, rfl, rfl, rfl, HST⟩
      case round =>
        clear c0 c1 f1
        obtain ⟨i, A1, k1, c1, A2, k2, c2, hi, rfl, rfl, rfl, HI⟩ := hrel
        obtain ⟨d0, d1⟩ := HI.out.bk.cells2
        have hk1 : k1 ≤ 1024 := by rw [← HI.out.l1]; exact Nat.le_trans (take_le nw S i).1 (by omega)
        have hk2 : k2 ≤ 1024 := by rw [← HI.out.l2]; exact Nat.le_trans (take_le nw S i).2 (by omega)
        by_cases hin : i < m
        · have hi2 : (i : Int) < (m : Int) := by omega
          obtain ⟨b, o, y, rfl, hy, r0, r1⟩ := (HRD.out wr HI.out.b).at_ (i := i) (by rw [← HM.out]; exact hin)
          have HGT := Lib.hid (go_take (nw := nw) hy)
          obtain ⟨y1, y2⟩ := y
          dsimp only at r0 r1
          clear hy
          by_cases hyn : y2 ≤ nw
          · have HG := Lib.hid (HGT.out.1 hyn)
            have hyd : decide (y2 ≤ nw) = true := by simp [hyn]
            go_wp2_with fail
            go_quiet (fail)
            go_wp2_with (first
              | (refine wp_app_int2 rfl (.tmp 51) (.tmp 60) rfl u.heap.size _ A1 k1 c1 rfl HI.out.l1 ((HI.out.ke ((Ke.refl _ _).drewN _)).ke ((Ke.refl _ _).alloc _)).o1 y1 wr.heap.size rfl (one_here rfl) (by omega) (by have := HI.out.b.size; show u.heap.size ≤ ((wr.drewN _).alloc _).heap.size; rw [World.size_alloc]; show u.heap.size ≤ wr.heap.size + 1; omega) (k1 + 1) rfl ?_; intro A3 c3 w3 q1 q2 q3; have H3 := Lib.hid (And.intro q1 (And.intro q2 q3)); clear q1 q2 q3))
            go_roundw
            case rel =>
              have h0 := (HI.out.ke ((Ke.refl [] wr).drewN nq)).ke ((Ke.refl [] (wr.drewN nq)).alloc (.cells #[.int .i64 y1] 3))
              exact ⟨i + 1, A3, k1 + 1, c3, A2, k2, c2, by omega, by go_num, rfl, rfl, Lib.hid ⟨by rw [HG.out.1, List.length_append, HI.out.l1]; rfl, by rw [HG.out.2]; exact HI.out.l2, by rw [HG.out.1]; exact H3.out.1, by rw [HG.out.2]; exact h0.o2.kt H3.out.2.2, h0.bk.below H3.out.2.1 HR.out.1.lt, h0.b.andBelow H3.out.2.1 (Nat.le_refl _)⟩⟩
            case measure => simp [intOf]; omega
          · have HG := Lib.hid (HGT.out.2 hyn)
            have hyd : decide (y2 ≤ nw) = false := by simp only [decide_eq_false_iff_not]; exact hyn
            go_wp2_with fail
            go_quiet (fail)
            go_wp2_with (first
              | (refine wp_app_al2 rfl (.tmp 62) (.tmp 70) rfl u.heap.size _ A2 k2 c2 rfl HI.out.l2 ((HI.out.ke ((Ke.refl _ _).drewN _)).ke ((Ke.refl _ _).alloc _)).o2 (y1, y2) wr.heap.size rfl (two_here rfl) (by omega) (by have := HI.out.b.size; show u.heap.size ≤ ((wr.drewN _).alloc _).heap.size; rw [World.size_alloc]; show u.heap.size ≤ wr.heap.size + 1; omega) (k2 + 1) rfl ?_; intro A3 c3 w3 q1 q2 q3; have H3 := Lib.hid (And.intro q1 (And.intro q2 q3)); clear q1 q2 q3))
            go_roundw
            case rel =>
              have h0 := (HI.out.ke ((Ke.refl [] wr).drewN nq)).ke ((Ke.refl [] (wr.drewN nq)).alloc (.cells #[.int .i64 y1, .int .i64 y2] 68))
              exact ⟨i + 1, A1, k1, c1, A3, k2 + 1, c3, by omega, by go_num, rfl, rfl, Lib.hid ⟨by rw [HG.out.1]; exact HI.out.l1, by rw [HG.out.2, List.length_append, HI.out.l2]; rfl, by rw [HG.out.1]; exact h0.o1.kt H3.out.2.2, by rw [HG.out.2]; exact H3.out.1, h0.bk.below H3.out.2.1 HR.out.1.lt, h0.b.andBelow H3.out.2.1 (Nat.le_refl _)⟩⟩
            case measure => simp [intOf]; omega
        · have hi2 : ¬ (i : Int) < (m : Int) := by omega
          have hid : decide ((i : Int) < (m : Int)) = false := by simp only [decide_eq_false_iff_not]; omega
          have f0 := HI.out.bk.frozen 0
          have HTK := Lib.hid (show S.take i = S from List.take_of_length_le (by rw [← HM.out]; omega))
          go_wp2_with fail
          go_returns
          have h0 := HI.out
          have e := HTK.out
          refine ⟨fun hh => absurd hh HNW.out.2, fun _ => ⟨A1, c1, ?_, ?_, ?_⟩, h0.b.set (p := ⟨s, 0, none⟩) (by simp) _⟩
          · rw [← HNW.out.1]
            have := h0.l1
            rw [e] at this
            rw [this]; rfl
          · rw [← HNW.out.1]
            have := h0.o1
            rw [e] at this
            exact this.ke (K := [s]) ((Ke.refl _ _).set (p := ⟨s, 0, none⟩) (by simp) _) (by simpa using H.out.lt)
          · rw [← HNW.out.1]
            have h2 := h0.o2
            have h3 := h0.l2
            rw [e] at h2 h3
            exact rk_store H.out h0.bk hnw0 hnw1 (.inr trivial) h0.b.size h2 h3 (Nat.le_trans (List.length_filter_le _ _) H.out.few)
end Go.Proofs.Ytdfllobdefodfaa
