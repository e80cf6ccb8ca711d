/- LsI, LsL: texts of this seat, one behind the other. -/
import Derived.Test.YtpbobmiajjgekaaLsC
import Derived.Test.YtpbobmiajjgekaaG7
import Derived.Maps.AppendAt
/- In the document's loops: the book untouched, or its row newer than what is gathered; append, with the place of the new row. -/
namespace Go.Proofs.Ytpbobmiajjgekaa
set_option linter.unusedVariables false
set_option maxRecDepth 100000
set_option linter.unusedSimpArgs false
open Go.RowKit

section
variable {β : Type} {P : Program} {t e : TypeId} {k by_ : Nat} {f : β → Array Value} {w w' : World} {B : Nat} {A : Option Addr} {c : Nat} {l : List β}
/-- append of one row: where the new slice lies. -/
theorem wp_rows_at (R : Ro P t e k by_ f) {ops : Array Oper} {rest : List Oper} {o : Oper} {a : Act} {Q : Exit → Act → World → Prop} (hgd : o.guard = none) (s x : Operand)
    (ho : o.op = .call { callee := .builtin .append, args := #[s, x], argTypes := #[t, t] }) (n : Nat) (hs : a.eval s = .slice A n c) (hn : l.length = n) (hown : Ow e k f w B A c l)
    (y : β) (b c' : Nat) (hx : a.eval x = .slice (some ⟨b, 0, none⟩) 1 c') (hR : Rw k f w (some ⟨b, 0, none⟩) [y])
    (hlen : n + 1 ≤ 1099511627776) (hbase : B ≤ w.heap.size) (s' : Nat) (hsum : n + 1 = s')
    (h : ∀ g2 c2 w', Ow e k f w' B (some ⟨g2, 0, none⟩) c2 (l ++ [y]) → w.grownBy w' (Value.slice A n c).ownBlock → Below B w w' → ((Value.slice A n c).ownBlock = some g2 ∨ g2 = w.heap.size) → wpList P ops Q rest (a.put o.dst (.slice (some ⟨g2, 0, none⟩) s' c2)) w') : wpList P ops Q (o :: rest) a w := by
  obtain ⟨i, z, hi1, hz, hsz, hby, hzc⟩ := R.hi
  subst hn; subst hsum
  have hb8 : (l.length + 1) * by_ ≤ 140737488355328 := Nat.le_trans (Nat.mul_le_mul hlen R.few) (by decide)
  refine wpList_append_own_at w hgd s x t ho B e i z k by_ R.ht hi1 hz hsz hby hzc R.k0 _ l.length (fl f l) hs hown ⟨b, 0, none⟩ 1 c' (fl f [y]) hx (fl_length R.fs [y]) ?_ ?_ (by unfold maxLen; omega) hb8 hbase ?_
  · intro q u hu
    obtain ⟨i', j, hi', hj, rfl, hv⟩ := fl_all R.fs R.k0 [y] q u hu
    rcases hR with h0 | ⟨b2, o', e1, _, hc⟩
    · cases h0
    · injection e1 with e1
      rw [e1, add_plain, ← Nat.add_assoc, hc i' hi' j hj, hv]
  · intro u hu
    obtain ⟨y2, _, hy⟩ := fl_mem hu
    exact R.one y2 u hy
  · intro v' w' hown' hg _ hat
    have hbel : Below B w w' := (Below.refl B w).grown hg hbase (fun k hk => (World.ownsRow.lt hown k hk).1)
    have hlen' : (l ++ [y]).length = l.length + 1 := List.length_append
    rw [← fl_app] at hown'
    rw [← hlen'] at hown'
    obtain ⟨g, cap, rfl, _, _⟩ := World.ownsRow.form hown' (by rw [hlen']; omega)
    have := h g cap w' hown' hg hbel (by
      rcases hat with e1 | e1
      · left; rw [← e1]; rfl
      · right; simpa [Value.ownBlock] using e1)
    rwa [← hlen'] at this
theorem gb_set (w : World) (p : Addr) (v : Value) : w.grownBy (w.setCell p v) (some p.block) := ⟨rfl, rfl, rfl, by simp [World.setCell], fun k hk hn => Below.heap_setCell _ _ _ _ (fun e => hn (by rw [e]))⟩
theorem gb_after {a b : World} {row : Option Nat} (h : a.grownBy b row) {p : Addr} (hp : a.heap.size ≤ p.block) (v : Value) : a.grownBy (b.setCell p v) row :=
  ⟨h.os, h.tape, h.output, Nat.le_trans h.size (by simp [World.setCell]), fun k hk hn => (Below.heap_setCell _ _ _ _ (fun e => by omega)).trans (h.block k hk hn)⟩
theorem gb_from {a b c : World} {row : Option Nat} (h : Below a.heap.size a b) (k : b.grownBy c row) : a.grownBy c row :=
  ⟨k.os.trans h.os, k.tape.trans h.tape, k.output.trans h.output, Nat.le_trans h.size k.size, fun i hi hne => (k.block i (Nat.lt_of_lt_of_le hi h.size) hne).trans (h.block i hi)⟩
theorem Ow.apart {g : Nat} (h : Ow e k f w B (some ⟨g, 0, none⟩) c l) {p : Addr} (hp : g ≠ p.block) (v : Value) : Ow e k f (w.setCell p v) B (some ⟨g, 0, none⟩) c l :=
  World.ownsRow.kept h (gb_set w p v) (.inr (by simp [Value.ownBlock]; exact hp))
end

theorem Lq.on {u w w' : World} {bb B : Nat} {g most : Int} {b' : Bo} (h : Lq u w bb B g most b') (hb : Below w.heap.size w w') : Lq u w' bb B g most b' := by
  rcases h with ⟨h, e⟩ | h
  · exact .inl ⟨h.on hb, (below_c0 hb (Nat.lt_of_lt_of_le h.lt h.bs)).trans e⟩
  · exact .inr (h.on hb)
def LvI (u wr : World) (bb : Nat) (g most : Int) (b cur : Bo) (Ao : Option Addr) (m co : Nat) : Prop :=
  (Below u.heap.size u wr ∧ cur = b) ∨ (Ke [bb] u wr ∧ ∃ E, u.heap.size ≤ E ∧ Lr wr bb E g most cur ∧ ∀ k, (Value.slice Ao m co).ownBlock = some k → k < E)
section
variable {u wr w' : World} {bb B : Nat} {g most : Int} {b cur : Bo} {Ao : Option Addr} {m co : Nat}
theorem LvI.ke (h : LvI u wr bb g most b cur Ao m co) : Ke [bb] u wr := by
  rcases h with ⟨h, _⟩ | ⟨h, _⟩
  · exact Ke.nil (Ke.of h)
  · exact h
theorem LvI.lr (H : Lr u bb B g most b) (h : LvI u wr bb g most b cur Ao m co) : Lr wr bb B g most cur := by
  rcases h with ⟨h, rfl⟩ | ⟨_, E, h1, h2, _⟩
  · exact H.on h
  · exact h2.weak (Nat.le_trans H.bs h1) H.lt
theorem LvI.on (h : LvI u wr bb g most b cur Ao m co) (hb : Below wr.heap.size wr w') : LvI u w' bb g most b cur Ao m co := by
  rcases h with ⟨h, e⟩ | ⟨h, E, h1, h2, h3⟩
  · exact .inl ⟨h.trans (hb.mono h.size), e⟩
  · exact .inr ⟨h.trans (Ke.nil (Ke.of hb)), E, h1, h2.on hb, h3⟩
theorem LvI.app (H : Lr u bb B g most b) (h : LvI u wr bb g most b cur Ao m co) (hg : wr.grownBy w' (Value.slice Ao m co).ownBlock) (hb : Below u.heap.size wr w') : Lr w' bb B g most cur ∧ Ke [bb] u w' := by
  have hlt : bb < u.heap.size := Nat.lt_of_lt_of_le H.lt H.bs
  rcases h with ⟨h, rfl⟩ | ⟨h, E, h1, h2, h3⟩
  · exact ⟨H.on (h.trans hb), Ke.nil (Ke.of (h.trans hb))⟩
  · refine ⟨?_, ⟨hb.os.trans h.os, hb.tape.trans h.tape, hb.output.trans h.output, Nat.le_trans h.size hb.size, fun i hi hL => (hb.block i hi).trans (h.block i hi hL)⟩⟩
    obtain ⟨⟨A, c, k1, k2⟩, k3, k4⟩ := h2
    refine ⟨⟨A, c, k1.below hb hlt, (k2.keep fun g2 cs hg2 hh => (hg.block g2 hh.lt (fun e => ?_)).trans hh).weak (Nat.le_trans H.bs h1)⟩, H.lt, Nat.le_trans H.bs (Nat.le_trans h.size hb.size)⟩
    have := h3 g2 e.symm
    omega
theorem LvI.put {w5 w6 : World} {cur' : Bo} {out : List Ls} (k : Ke [bb] u w5) (hput : Lr w6 bb w5.heap.size g most cur') (hk : Ke [bb] w5 w6) (ho : OL13 w5 u.heap.size Ao co out) (n : Nat) : LvI u w6 bb g most b cur' Ao n co :=
  .inr ⟨k.trans hk, w5.heap.size, k.size, hput, fun j hj => (Ow.block ho n j hj).2.1⟩
theorem LvI.done (H : Lr u bb B g most b) (h : LvI u wr bb g most b cur Ao m co) : Lq u wr bb B g most cur := by
  rcases h with ⟨h, rfl⟩ | ⟨_, E, h1, h2, _⟩
  · exact H.same h
  · exact .inr (h2.weak h1 (Nat.lt_of_lt_of_le H.lt H.bs))
end

/-- The book within a loop that turns each of its leases. -/
def cuL (f : Ls → Ls) (l : List Ls) (i : Nat) : List Ls := (l.take i).map f ++ l.drop i
theorem cu_0 (f : Ls → Ls) (l : List Ls) : cuL f l 0 = l := rfl
theorem cu_end (f : Ls → Ls) {l : List Ls} {i : Nat} (h : l.length ≤ i) : cuL f l i = l.map f := by
  unfold cuL; rw [List.take_of_length_le h, List.drop_of_length_le h, List.append_nil]
theorem cu_len (f : Ls → Ls) (l : List Ls) (i : Nat) : (cuL f l i).length = l.length := by
  unfold cuL; rw [List.length_append, List.length_map, ← List.length_append, List.take_append_drop]
theorem drop_at {l : List Ls} {i : Nat} {x : Ls} (h : l[i]? = some x) : l.drop i = x :: l.drop (i + 1) := by
  obtain ⟨hi, he⟩ := List.getElem?_eq_some_iff.1 h
  rw [List.drop_eq_getElem_cons hi, he]
theorem cu_at (f : Ls → Ls) {l : List Ls} {i : Nat} {x : Ls} (h : l[i]? = some x) : cuL f l i = (l.take i).map f ++ x :: l.drop (i + 1) := by
  unfold cuL; rw [drop_at h]
theorem cu_next (f : Ls → Ls) {l : List Ls} {i : Nat} {x : Ls} (h : l[i]? = some x) : cuL f l (i + 1) = (l.take i).map f ++ f x :: l.drop (i + 1) := by
  unfold cuL
  rw [List.take_add_one, h, show (some x).toList = [x] from rfl, List.map_append, List.append_assoc]
  rfl
theorem cu_up {f : Ls → Ls} (hf : ∀ x, (f x).name = x.name) {l : List Ls} (h : UpL l) (i : Nat) : UpL (cuL f l i) := by
  have h0 : UpL (l.take i ++ l.drop i) := by rw [List.take_append_drop]; exact h
  unfold UpL at h0
  rw [List.pairwise_append] at h0
  obtain ⟨h1, h2, h3⟩ := h0
  unfold cuL UpL
  rw [List.pairwise_append]
  refine ⟨map_up hf h1, h2, fun a ha y hy => ?_⟩
  obtain ⟨z, hz, rfl⟩ := List.mem_map.1 ha
  rw [hf]
  exact h3 z hz y hy
theorem cu_hit {f : Ls → Ls} (hf : ∀ x, (f x).name = x.name) {l : List Ls} {i : Nat} {x : Ls} (h : l[i]? = some x) (hup : UpL l) : ptL (f x) (cuL f l i) = cuL f l (i + 1) := by
  have hu := cu_up hf hup i
  rw [cu_at f h] at hu
  rw [cu_at f h, cu_next f h]
  exact ptL_mid hu (hf x)
theorem cu_miss {f : Ls → Ls} {l : List Ls} {i : Nat} {x : Ls} (h : l[i]? = some x) (e : f x = x) : cuL f l (i + 1) = cuL f l i := by
  rw [cu_next f h, cu_at f h, e]
theorem fi_next (p : Ls → Bool) {l : List Ls} {i : Nat} {x : Ls} (h : l[i]? = some x) : (l.take (i + 1)).filter p = if p x = true then (l.take i).filter p ++ [x] else (l.take i).filter p := by
  rw [List.take_add_one, h, show (some x).toList = [x] from rfl, List.filter_append, List.filter_cons, List.filter_nil]
  split <;> simp_all
end Go.Proofs.Ytpbobmiajjgekaa

/- The document's own book of leases: Leave: its contract. (Written by gen_lsl.py.) -/
namespace Go.Proofs.Ytpbobmiajjgekaa
set_option linter.unusedVariables false
set_option maxRecDepth 100000
set_option linter.unusedSimpArgs false
open Go.RowKit

set_option maxRecDepth 100000 in
set_option maxHeartbeats 8000000 in
theorem lrleave_q (u : World) (bb B : Nat) (g most : Int) (b : Bo) (conn now : Int) (h : Lr u bb B g most b) (hl : b.l.length ≤ 1000000) (hup : UpL b.l) (hg : 0 ≤ g) (hg2 : g ≤ 1073741824) :
    Calls Try.prog 22 #[.pointer (some ⟨bb, 0, none⟩), .int .i64 conn, .int .i64 now] u fun e u' => ∃ A' c', e = .returned (.slice A' (leaveL g b conn now).1.length c') ∧ OL13 u' u.heap.size A' c' (leaveL g b conn now).1 ∧ Lq u u' bb B g most (leaveL g b conn now).2 ∧ Ke [bb] u u' := by
  have HC := Lib.hid (fun w => lrclock_ok now w)
  have HL := Lib.hid h
  obtain ⟨R, hR⟩ : ∃ R, leaveL g b conn now = R := ⟨_, rfl⟩
  have hr := hR
  simp only [hR]
  unfold leaveL at hr
  obtain ⟨ck, hck⟩ : ∃ v, clkB now = v := ⟨_, rfl⟩
  simp only [hck] at HC hr
  have arm : True := trivial
  clear hR
  cases ck with
  | false =>
    have HS := Lib.hid (show R = ([], b) by rw [← hr, if_pos rfl])
    clear hr hck h hl hup hg hg2
    go_enter Try.func22, Try.ntmps22
    go_wp2_with (go_at_call 41; (with_reducible refine (HC.out _).mono ?_); rintro e u5 ⟨rfl, hu⟩; rw [hu]; clear hu)
    go_ret
    rw [HS.out]
    exact ⟨none, 0, rfl, Ow.nil _ _, HL.out.same (Below.refl _ _), Ke.refl _ _⟩
  | true =>
    rw [if_neg (by simp)] at hr
    unfold clkB at hck
    simp only [Bool.and_eq_true, decide_eq_true_eq] at hck
    obtain ⟨hn1, hn2⟩ := hck
    obtain ⟨N, rfl⟩ := Int.eq_ofNat_of_zero_le hn1
    obtain ⟨G, rfl⟩ := Int.eq_ofNat_of_zero_le hg
    obtain ⟨S, hS⟩ : ∃ S : Nat, (N : Int) + (G : Int) = (S : Int) := ⟨N + G, by omega⟩
    have hw := (iwrap ((N : Int) + (G : Int)) S hS (by omega)).1
    have HSS := Lib.hid (And.intro hS hw)
    obtain ⟨A, c, hAc⟩ : ∃ A c, Bk u bb 46 (bkc A b.l.length c (G : Int) most b.nx) ∧ OL13 u B A c b.l := by
      obtain ⟨⟨A, c, h1, h2⟩, _, _⟩ := h
      exact ⟨A, c, h1, h2⟩
    have HK0 := Lib.hid hAc.1
    have HO0 := Lib.hid hAc.2
    obtain ⟨l, nx⟩ := b
    dsimp only at HK0 HO0 hl hup hr
    obtain ⟨n, hn⟩ : ∃ n, l.length = n := ⟨_, rfl⟩
    have HN := Lib.hid hn
    have HUP := Lib.hid hup
    have HRR := Lib.hid hr
    have HNM := Lib.hid (lvX_name (G : Int) conn (N : Int))
    rw [hn] at HK0 hl
    clear hAc h hup hg hg2 hn1 hn2 hS hw hn hr
    have e0 : u.cell? ⟨bb, 0, none⟩ = some (.slice A n c) := HK0.out.cell 0
    go_enter Try.func22, Try.ntmps22
    go_wp2_with (go_at_call 41; (with_reducible refine (HC.out _).mono ?_); rintro e u5 ⟨rfl, hu⟩; rw [hu]; clear hu)
    clear e0
    go_loopw [7, 9] (fun v7 v9 wr => ∃ (i m : Nat) (Ao : Option Addr) (co : Nat), i ≤ n ∧ m ≤ i ∧ v7 = .slice Ao m co ∧ v9 = .int .i64 (i : Int) ∧ Hid (((l.take i).filter (fun x => decide (x.conn = conn) && heL x (N : Int))).length = m) ∧ Hid (OL13 wr u.heap.size Ao co ((l.take i).filter (fun x => decide (x.conn = conn) && heL x (N : Int)))) ∧ Hid (LvI u wr bb (G : Int) most ⟨l, nx⟩ ⟨cuL (lvX (G : Int) conn (N : Int)) l i, nx⟩ Ao m co)) (fun v7 v9 _ => n - (intOf v9).toNat)
    case atStart => exact ⟨0, 0, none, 0, by omega, by omega, rfl, rfl, Lib.hid rfl, Lib.hid (Ow.nil _ _), Lib.hid (.inl ⟨Below.refl _ _, rfl⟩)⟩
    case round =>
      obtain ⟨i, m, Ao, co, hi, hm, rfl, rfl, HM, HO, HV⟩ := hrel
      have hlt : bb < B := HL.out.lt
      have HOW := Lib.hid (HO0.out.keep fun g2 cs hg2 hh => hh.ke HV.out.ke (by simp; omega))
      by_cases hi1 : i < n
      · have hi2 : (i : Int) < (n : Int) := by omega
        obtain ⟨bx, o, x, rfl, hx, hc⟩ := row6 (Ow.rw_ (f := lsc) (k := 6) (fun _ => rfl) HOW.out) i (by rw [HN.out]; exact hi1)
        obtain ⟨c0, c1, c2, c3, c4, c5⟩ := hc wr (Below.refl _ _)
        have HX := Lib.hid hx
        clear hc hx hlt HOW
        obtain ⟨xn, xt, xc, xe, xu, xh⟩ := x
        dsimp only at c0 c1 c2 c3 c4 c5
        have HH := Lib.hid (fun w => lrheld_ok ⟨xn, xt, xc, xe, xu, xh⟩ (N : Int) w)
        obtain ⟨hv, hhv⟩ : ∃ v, heL ⟨xn, xt, xc, xe, xu, xh⟩ (N : Int) = v := ⟨_, rfl⟩
        simp only [hhv] at HH
        have HHV := Lib.hid hhv
        clear hhv
        go_upto_region 9 with fail
        obtain ⟨gx, hgx⟩ : ∃ gx, wr.heap.size = gx := ⟨_, rfl⟩
        obtain ⟨v1, hv1⟩ : ∃ v, wr.alloc (.cells #[.string xn, .string xt, .int .i64 xc, .int .i64 xe, .int .i64 xu, .bool xh] 32) = v := ⟨_, rfl⟩
        have HB1 := Lib.hid (show Below wr.heap.size wr v1 by rw [← hv1]; exact (Below.refl _ _).alloc (Nat.le_refl _) _)
        have HX1 := Lib.hid (show Bk v1 gx 32 #[.string xn, .string xt, .int .i64 xc, .int .i64 xe, .int .i64 xu, .bool xh] by rw [← hv1, ← hgx]; exact Bk.new _ _ _)
        have HGX := Lib.hid hgx
        try dsimp only
        rw [hv1]
        try rw [hgx]
        clear hv1 hgx c0 c1 c2 c3 c4 c5
        have y0 : v1.cell? ⟨gx, 0, none⟩ = some (.string xn) := HX1.out.cell 0
        have y1 : v1.cell? ⟨gx, 1, none⟩ = some (.string xt) := HX1.out.cell 1
        have y2 : v1.cell? ⟨gx, 2, none⟩ = some (.int .i64 xc) := HX1.out.cell 2
        have y3 : v1.cell? ⟨gx, 3, none⟩ = some (.int .i64 xe) := HX1.out.cell 3
        have y4 : v1.cell? ⟨gx, 4, none⟩ = some (.int .i64 xu) := HX1.out.cell 4
        have y5 : v1.cell? ⟨gx, 5, none⟩ = some (.bool xh) := HX1.out.cell 5
        have k0 := HX1.out.frozen 0
        have k1 := HX1.out.frozen 1
        have k2 := HX1.out.frozen 2
        have k3 := HX1.out.frozen 3
        have k4 := HX1.out.frozen 4
        have k5 := HX1.out.frozen 5
        by_cases hxc : xc = conn
        · have hb1 : (xc != conn) = false := by simp [hxc]
          have hb2 : (xc == conn) = true := by simp [hxc]
          have hb3 : decide (xc = conn) = true := decide_eq_true hxc
          have HB3 := Lib.hid hb3
          clear hxc hb3
          cases hv with
          | false =>
            have HF := Lib.hid (fi_next (fun x => decide (x.conn = conn) && heL x (N : Int)) HX.out)
            have HC2 := Lib.hid (cu_miss (f := lvX (G : Int) conn (N : Int)) HX.out (by unfold lvX; rw [HHV.out, Bool.and_false, if_neg (by simp)]))
            have HP0 := Lib.hid (show (decide ((⟨xn, xt, xc, xe, xu, xh⟩ : Ls).conn = conn) && heL ⟨xn, xt, xc, xe, xu, xh⟩ (N : Int)) = false by rw [HHV.out, Bool.and_false])
            go_wp2_with (go_at_call 46; (with_reducible refine (HH.out _).mono ?_); rintro e v2 ⟨rfl, hb⟩; have HB2 := Lib.hid (HB1.out.trans (hb.mono HB1.out.size)); have HX2 := Lib.hid (HX1.out.below hb HX1.out.lt); clear hb)
            go_roundw
            case rel => exact ⟨i + 1, m, Ao, co, by omega, by omega, rfl, by go_num, Lib.hid (by rw [HF.out, if_neg (by rw [HP0.out]; simp)]; exact HM.out), Lib.hid (by rw [HF.out, if_neg (by rw [HP0.out]; simp)]; exact HO.out.on HB2.out), Lib.hid (by rw [HC2.out]; exact HV.out.on HB2.out)⟩
            case measure => simp [intOf]; omega
          | true =>
            have HF := Lib.hid (fi_next (fun x => decide (x.conn = conn) && heL x (N : Int)) HX.out)
            have HP0 := Lib.hid (show (decide ((⟨xn, xt, xc, xe, xu, xh⟩ : Ls).conn = conn) && heL ⟨xn, xt, xc, xe, xu, xh⟩ (N : Int)) = true by rw [HHV.out, Bool.and_true]; exact HB3.out)
            have HHIT := Lib.hid (cu_hit (f := lvX (G : Int) conn (N : Int)) HNM.out HX.out HUP.out)
            have HFX := Lib.hid (show lvX (G : Int) conn (N : Int) ⟨xn, xt, xc, xe, xu, xh⟩ = ⟨xn, xt, xc, xe, (S : Int), false⟩ by unfold lvX; rw [if_pos HP0.out, HSS.out.1])
            go_upto_region 10 with (go_at_call 46; (with_reducible refine (HH.out _).mono ?_); rintro e v2 ⟨rfl, hb⟩; have HB2 := Lib.hid (HB1.out.trans (hb.mono HB1.out.size)); have HX2 := Lib.hid (HX1.out.below hb HX1.out.lt); clear hb)
            clear y0 y1 y2 y3 y4 y5 k0 k1 k2 k3 k4 k5
            have z0 : v2.cell? ⟨gx, 0, none⟩ = some (.string xn) := HX2.out.cell 0
            have z1 : v2.cell? ⟨gx, 1, none⟩ = some (.string xt) := HX2.out.cell 1
            have z2 : v2.cell? ⟨gx, 2, none⟩ = some (.int .i64 xc) := HX2.out.cell 2
            have z3 : v2.cell? ⟨gx, 3, none⟩ = some (.int .i64 xe) := HX2.out.cell 3
            have z4 : v2.cell? ⟨gx, 4, none⟩ = some (.int .i64 xu) := HX2.out.cell 4
            have z5 : v2.cell? ⟨gx, 5, none⟩ = some (.bool xh) := HX2.out.cell 5
            have q0 := HX2.out.frozen 0
            have q1 := HX2.out.frozen 1
            have q2 := HX2.out.frozen 2
            have q3 := HX2.out.frozen 3
            have q4 := HX2.out.frozen 4
            have q5 := HX2.out.frozen 5
            have HB4 := Lib.hid (show Below wr.heap.size wr (v2.alloc (.cells #[.string xn, .string xt, .int .i64 xc, .int .i64 xe, .int .i64 xu, .bool xh] 32)) from HB2.out.alloc HB2.out.size _)
            have HOA := Lib.hid (HO.out.on HB4.out)
            have HX3 := Lib.hid (HX2.out.below ((Below.refl v2.heap.size v2).alloc (Nat.le_refl _) (.cells #[.string xn, .string xt, .int .i64 xc, .int .i64 xe, .int .i64 xu, .bool xh] 32)) HX2.out.lt)
            have HRX := Lib.hid (Rw.bk (f := lsc) (k := 6) (x := ⟨xn, xt, xc, xe, xu, xh⟩) (Bk.new v2 32 #[.string xn, .string xt, .int .i64 xc, .int .i64 xe, .int .i64 xu, .bool xh]))
            have HSZ := Lib.hid (show u.heap.size ≤ (v2.alloc (.cells #[.string xn, .string xt, .int .i64 xc, .int .i64 xe, .int .i64 xu, .bool xh] 32)).heap.size from Nat.le_trans HV.out.ke.size HB4.out.size)
            go_upto_region 11 with (at_builtin; refine wp_rows_at roL rfl (.tmp 38) (.tmp 40) rfl m rfl HM.out HOA.out ⟨xn, xt, xc, xe, xu, xh⟩ v2.heap.size 1 rfl HRX.out (by omega) HSZ.out (m + 1) rfl ?_; intro g9 c9 w9 ho9 hg9 hb9 hat9; have HO9 := Lib.hid ho9; have HG9 := Lib.hid (gb_from HB4.out hg9); have HGG := Lib.hid hg9; have HB9 := Lib.hid ((HB4.out.mono HV.out.ke.size).trans hb9); have HAT := Lib.hid hat9; clear ho9 hg9 hb9 hat9)
            have hgx0 := HGX.out
            have HNE := Lib.hid (show ¬ (some gx = (Value.slice Ao m co).ownBlock) from fun e => by
              have := (Ow.block HO.out m gx e.symm).2.1
              omega)
            have HNE2 := Lib.hid (show g9 ≠ gx from fun e => by
              rcases HAT.out with h | h
              · exact HNE.out (by rw [h, e])
              · have h1 := HX2.out.lt
                have h2 : (v2.alloc (.cells #[.string xn, .string xt, .int .i64 xc, .int .i64 xe, .int .i64 xu, .bool xh] 32)).heap.size = v2.heap.size + 1 := World.size_alloc _ _
                omega)
            have HX9 := Lib.hid (show Bk w9 gx 32 #[.string xn, .string xt, .int .i64 xc, .int .i64 xe, .int .i64 xu, .bool xh] from (HGG.out.block gx HX3.out.lt HNE.out).trans HX3.out)
            clear HB1 HX1 HB2 HX2 HX3 HRX HOA z0 z1 z2 z3 z4 z5 q0 q1 q2 q3 q4 q5 HAT
            have y0 : w9.cell? ⟨gx, 0, none⟩ = some (.string xn) := HX9.out.cell 0
            have y1 : w9.cell? ⟨gx, 1, none⟩ = some (.string xt) := HX9.out.cell 1
            have y2 : w9.cell? ⟨gx, 2, none⟩ = some (.int .i64 xc) := HX9.out.cell 2
            have y3 : w9.cell? ⟨gx, 3, none⟩ = some (.int .i64 xe) := HX9.out.cell 3
            have y4 : w9.cell? ⟨gx, 4, none⟩ = some (.int .i64 xu) := HX9.out.cell 4
            have y5 : w9.cell? ⟨gx, 5, none⟩ = some (.bool xh) := HX9.out.cell 5
            have k0 := HX9.out.frozen 0
            have k1 := HX9.out.frozen 1
            have k2 := HX9.out.frozen 2
            have k3 := HX9.out.frozen 3
            have k4 := HX9.out.frozen 4
            have k5 := HX9.out.frozen 5
            go_upto_region 12 with fail
            obtain ⟨w10, hw10⟩ : ∃ v, w9.setCell ⟨gx, 5, none⟩ (.bool false) = v := ⟨_, rfl⟩
            have HG10 := Lib.hid (show wr.grownBy w10 (Value.slice Ao m co).ownBlock by rw [← hw10]; exact gb_after HG9.out (p := ⟨gx, 5, none⟩) (by show wr.heap.size ≤ gx; omega) _)
            have HB10 := Lib.hid (show Below u.heap.size wr w10 by rw [← hw10]; exact HB9.out.setCell (p := ⟨gx, 5, none⟩) (by show u.heap.size ≤ gx; have := HV.out.ke.size; omega) _)
            have HO10 := Lib.hid (show OL13 w10 u.heap.size (some ⟨g9, 0, none⟩) c9 ((l.take i).filter (fun x => decide (x.conn = conn) && heL x (N : Int)) ++ [⟨xn, xt, xc, xe, xu, xh⟩]) by rw [← hw10]; exact Ow.apart HO9.out (p := ⟨gx, 5, none⟩) HNE2.out _)
            have HX10 := Lib.hid (show Bk w10 gx 32 #[.string xn, .string xt, .int .i64 xc, .int .i64 xe, .int .i64 xu, .bool false] by rw [← hw10]; simpa only [List.setIfInBounds_toArray, List.set_cons_zero, List.set_cons_succ] using HX9.out.set 5 (.bool false))
            rw [hw10]
            clear hw10 HG9 HB9 HO9 HX9 y0 y1 y2 y3 y4 y5 k0 k1 k2 k3 k4 k5
            have y0 : w10.cell? ⟨gx, 0, none⟩ = some (.string xn) := HX10.out.cell 0
            have y1 : w10.cell? ⟨gx, 1, none⟩ = some (.string xt) := HX10.out.cell 1
            have y2 : w10.cell? ⟨gx, 2, none⟩ = some (.int .i64 xc) := HX10.out.cell 2
            have y3 : w10.cell? ⟨gx, 3, none⟩ = some (.int .i64 xe) := HX10.out.cell 3
            have y4 : w10.cell? ⟨gx, 4, none⟩ = some (.int .i64 xu) := HX10.out.cell 4
            have y5 : w10.cell? ⟨gx, 5, none⟩ = some (.bool false) := HX10.out.cell 5
            have k0 := HX10.out.frozen 0
            have k1 := HX10.out.frozen 1
            have k2 := HX10.out.frozen 2
            have k3 := HX10.out.frozen 3
            have k4 := HX10.out.frozen 4
            have k5 := HX10.out.frozen 5
            have e1 : w10.cell? ⟨bb, 1, none⟩ = some (.int .i64 (G : Int)) := by
              obtain ⟨⟨⟨A3, c3, h1, _⟩, _, _⟩, _⟩ := HV.out.app HL.out HG10.out HB10.out
              exact h1.cell 1
            have hw := HSS.out.2
            go_upto_region 13 with fail
            obtain ⟨w11, hw11⟩ : ∃ v, w10.setCell ⟨gx, 4, none⟩ (.int .i64 (S : Int)) = v := ⟨_, rfl⟩
            have HG11 := Lib.hid (show wr.grownBy w11 (Value.slice Ao m co).ownBlock by rw [← hw11]; exact gb_after HG10.out (p := ⟨gx, 4, none⟩) (by show wr.heap.size ≤ gx; omega) _)
            have HB11 := Lib.hid (show Below u.heap.size wr w11 by rw [← hw11]; exact HB10.out.setCell (p := ⟨gx, 4, none⟩) (by show u.heap.size ≤ gx; have := HV.out.ke.size; omega) _)
            have HO11 := Lib.hid (show OL13 w11 u.heap.size (some ⟨g9, 0, none⟩) c9 ((l.take i).filter (fun x => decide (x.conn = conn) && heL x (N : Int)) ++ [⟨xn, xt, xc, xe, xu, xh⟩]) by rw [← hw11]; exact Ow.apart HO10.out (p := ⟨gx, 4, none⟩) HNE2.out _)
            have HX11 := Lib.hid (show Bk w11 gx 32 #[.string xn, .string xt, .int .i64 xc, .int .i64 xe, .int .i64 (S : Int), .bool false] by rw [← hw11]; simpa only [List.setIfInBounds_toArray, List.set_cons_zero, List.set_cons_succ] using HX10.out.set 4 (.int .i64 (S : Int)))
            rw [hw11]
            clear hw11 hw HG10 HB10 HO10 HX10 y0 y1 y2 y3 y4 y5 k0 k1 k2 k3 k4 k5 e1
            have y0 : w11.cell? ⟨gx, 0, none⟩ = some (.string xn) := HX11.out.cell 0
            have y1 : w11.cell? ⟨gx, 1, none⟩ = some (.string xt) := HX11.out.cell 1
            have y2 : w11.cell? ⟨gx, 2, none⟩ = some (.int .i64 xc) := HX11.out.cell 2
            have y3 : w11.cell? ⟨gx, 3, none⟩ = some (.int .i64 xe) := HX11.out.cell 3
            have y4 : w11.cell? ⟨gx, 4, none⟩ = some (.int .i64 (S : Int)) := HX11.out.cell 4
            have y5 : w11.cell? ⟨gx, 5, none⟩ = some (.bool false) := HX11.out.cell 5
            have k0 := HX11.out.frozen 0
            have k1 := HX11.out.frozen 1
            have k2 := HX11.out.frozen 2
            have k3 := HX11.out.frozen 3
            have k4 := HX11.out.frozen 4
            have k5 := HX11.out.frozen 5
            have HA := Lib.hid (HV.out.app HL.out HG11.out HB11.out)
            have HP := Lib.hid (lrput_ok w11 bb B (G : Int) most ⟨cuL (lvX (G : Int) conn (N : Int)) l i, nx⟩ ⟨xn, xt, xc, xe, (S : Int), false⟩ HA.out.1 (by show (cuL (lvX (G : Int) conn (N : Int)) l i).length ≤ _; rw [cu_len, HN.out]; exact hl) (cu_up HNM.out HUP.out i))
            clear hgx0
            go_wp2_with (go_at_call 39; (with_reducible refine HP.out.mono ?_); rintro e w12 ⟨rfl, hr, hk⟩; have HR12 := Lib.hid hr; have HK12 := Lib.hid hk; clear hr hk)
            go_roundw
            case rel => exact ⟨i + 1, m + 1, some ⟨g9, 0, none⟩, c9, by omega, by omega, by first | rfl | go_num, by go_num, Lib.hid (by rw [HF.out, if_pos HP0.out, List.length_append, HM.out]; rfl), Lib.hid (by rw [HF.out, if_pos HP0.out]; exact HO11.out.keep fun g2 cs hg2 hh => hh.ke HK12.out (by have h1 := HL.out.lt; have h2 := HL.out.bs; simp; omega)), Lib.hid (LvI.put HA.out.2 (by rw [← HHIT.out, HFX.out]; exact HR12.out) HK12.out HO11.out (m + 1))⟩
            case measure => simp [intOf]; omega
        · have hb1 : (xc != conn) = true := by simp [hxc]
          have hb2 : (xc == conn) = false := by simp [hxc]
          have hb3 : decide (xc = conn) = false := decide_eq_false hxc
          have HF := Lib.hid (fi_next (fun x => decide (x.conn = conn) && heL x (N : Int)) HX.out)
          have HP0 := Lib.hid (show (decide ((⟨xn, xt, xc, xe, xu, xh⟩ : Ls).conn = conn) && heL ⟨xn, xt, xc, xe, xu, xh⟩ (N : Int)) = false by show (decide (xc = conn) && _) = false; rw [hb3, Bool.false_and])
          have HC2 := Lib.hid (cu_miss (f := lvX (G : Int) conn (N : Int)) HX.out (by unfold lvX; rw [HP0.out, if_neg (by simp)]))
          go_wp2_with fail
          go_roundw
          case rel => exact ⟨i + 1, m, Ao, co, by omega, by omega, rfl, by go_num, Lib.hid (by rw [HF.out, if_neg (by rw [HP0.out]; simp)]; exact HM.out), Lib.hid (by rw [HF.out, if_neg (by rw [HP0.out]; simp)]; exact HO.out.on HB1.out), Lib.hid (by rw [HC2.out]; exact HV.out.on HB1.out)⟩
          case measure => simp [intOf]; omega
      · have hi2 : ¬ (i : Int) < (n : Int) := by omega
        have HTL := Lib.hid (show l.take i = l from List.take_of_length_le (by rw [HN.out]; omega))
        have HCE := Lib.hid (cu_end (lvX (G : Int) conn (N : Int)) (l := l) (i := i) (by rw [HN.out]; omega))
        clear hlt HOW
        go_wp2_with fail
        go_ret
        have h1 := HM.out
        have h2 := HO.out
        have h3 := HV.out.done HL.out
        rw [HTL.out] at h1 h2
        rw [HCE.out] at h3
        rw [← HRR.out]
        exact ⟨Ao, co, by dsimp only; rw [h1]; rfl, h2, h3, HV.out.ke⟩
end Go.Proofs.Ytpbobmiajjgekaa
