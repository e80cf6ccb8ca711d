/- The document's own book of leases: Lapse: its contract. (Written by gen_lsp.py.) -/
import Derived.Test.YtpbobmiajjgekaaG18
import Derived.BigRegion
namespace Go.Proofs.Ytpbobmiajjgekaa
set_option linter.unusedVariables false
set_option maxRecDepth 100000
set_option linter.unusedSimpArgs false
open Go.RowKit

/-- The book within a loop that turns each of its leases, and keeps some. -/
def cpL (f : Ls → Ls) (p : Ls → Bool) (l : List Ls) (i : Nat) : List Ls := ((l.take i).map f).filter p ++ l.drop i
theorem cp_end (f : Ls → Ls) (p : Ls → Bool) {l : List Ls} {i : Nat} (h : l.length ≤ i) : cpL f p l i = (l.map f).filter p := by
  unfold cpL; rw [List.take_of_length_le h, List.drop_of_length_le h, List.append_nil]
theorem cp_at (f : Ls → Ls) (p : Ls → Bool) {l : List Ls} {i : Nat} {x : Ls} (h : l[i]? = some x) : cpL f p l i = ((l.take i).map f).filter p ++ x :: l.drop (i + 1) := by
  unfold cpL; rw [drop_at h]
theorem cp_next (f : Ls → Ls) (p : Ls → Bool) {l : List Ls} {i : Nat} {x : Ls} (h : l[i]? = some x) : cpL f p l (i + 1) = if p (f x) = true then ((l.take i).map f).filter p ++ f x :: l.drop (i + 1) else ((l.take i).map f).filter p ++ l.drop (i + 1) := by
  unfold cpL
  rw [List.take_add_one, h, show (some x).toList = [x] from rfl, List.map_append, List.filter_append, List.map_cons, List.map_nil, List.filter_cons, List.filter_nil]
  split
  · rw [List.append_assoc]; rfl
  · rw [List.append_nil]
theorem cp_up {f : Ls → Ls} (p : Ls → Bool) (hf : ∀ x, (f x).name = x.name) {l : List Ls} (h : UpL l) (i : Nat) : UpL (cpL f p l i) :=
  List.Pairwise.sublist (List.Sublist.append List.filter_sublist (List.Sublist.refl _)) (cu_up hf h i)
theorem cp_mup {f : Ls → Ls} (p : Ls → Bool) (hf : ∀ x, (f x).name = x.name) {l : List Ls} {i : Nat} {x : Ls} (hx : l[i]? = some x) (h : UpL l) : UpL (((l.take i).map f).filter p ++ f x :: l.drop (i + 1)) := by
  have h1 := cu_up hf h (i + 1)
  rw [cu_next f hx] at h1
  exact List.Pairwise.sublist (List.Sublist.append List.filter_sublist (List.Sublist.refl _)) h1
theorem cp_len (f : Ls → Ls) (p : Ls → Bool) (l : List Ls) (i : Nat) : (cpL f p l i).length ≤ l.length := by
  have h1 : (cpL f p l i).length ≤ (cuL f l i).length := (List.Sublist.append List.filter_sublist (List.Sublist.refl _)).length_le
  rw [cu_len] at h1
  exact h1
theorem cp_mlen (f : Ls → Ls) (p : Ls → Bool) {l : List Ls} {i : Nat} {x : Ls} (h : l[i]? = some x) : (((l.take i).map f).filter p ++ f x :: l.drop (i + 1)).length ≤ l.length := by
  have h1 : (((l.take i).map f).filter p ++ f x :: l.drop (i + 1)).length ≤ (cuL f l (i + 1)).length := by rw [cu_next f h]; exact (List.Sublist.append List.filter_sublist (List.Sublist.refl _)).length_le
  rw [cu_len] at h1
  exact h1
theorem cp_put {f : Ls → Ls} (p : Ls → Bool) (hf : ∀ x, (f x).name = x.name) {l : List Ls} {i : Nat} {x : Ls} (h : l[i]? = some x) (hup : UpL l) : ptL (f x) (cpL f p l i) = ((l.take i).map f).filter p ++ f x :: l.drop (i + 1) := by
  have hu := cp_up p hf hup i
  rw [cp_at f p h] at hu ⊢
  exact ptL_mid hu (hf x)
theorem cp_drop {f : Ls → Ls} (p : Ls → Bool) (hf : ∀ x, (f x).name = x.name) {l : List Ls} {i : Nat} {x : Ls} (h : l[i]? = some x) (hup : UpL l) : drL x.name (((l.take i).map f).filter p ++ f x :: l.drop (i + 1)) = ((l.take i).map f).filter p ++ l.drop (i + 1) := by
  rw [← hf x]
  exact drL_mid (cp_mup p hf h hup)
set_option maxRecDepth 100000 in
set_option maxHeartbeats 8000000 in
theorem lrlapse_q (u : World) (bb B : Nat) (g most : Int) (b : Bo) (now : Int) (h : Lr u bb B g most b) (hl : b.l.length ≤ 1000000) (hup : UpL b.l) (hg : 0 ≤ g) (hg2 : g ≤ 1073741824) (htl : ∀ y ∈ b.l, 0 ≤ y.till ∧ y.till ≤ 1125899906842624 - 1073741824) :
    Calls Try.prog 24 #[.pointer (some ⟨bb, 0, none⟩), .int .i64 now] u fun e u' => ∃ A' c', e = .returned (.slice A' (lapseL g b now).1.length c') ∧ OL13 u' u.heap.size A' c' (lapseL g b now).1 ∧ Lq u u' bb B g most (lapseL g b now).2 ∧ Ke [bb] u u' := by
  have HC := Lib.hid (fun w => lrclock_ok now w)
  have HL := Lib.hid h
  have HTL := Lib.hid htl
  clear htl
  obtain ⟨R, hR⟩ : ∃ R, lapseL g b now = R := ⟨_, rfl⟩
  have hr := hR
  simp only [hR]
  unfold lapseL at hr
  obtain ⟨ck, hck⟩ : ∃ v, clkB now = v := ⟨_, rfl⟩
  simp only [hck] at HC hr
  have arm : True := trivial
  clear hR
  cases ck with
  | false =>
    have HS := Lib.hid (show R = ([], b) by rw [← hr, if_pos rfl])
    clear hr hck h hl hup hg hg2
    go_enter Try.func24, Try.ntmps24
    go_wp2_with (go_at_call 41; (with_reducible refine (HC.out _).mono ?_); rintro e u5 ⟨rfl, hu⟩; rw [hu]; clear hu)
    go_ret
    rw [HS.out]
    exact ⟨none, 0, rfl, Ow.nil _ _, HL.out.same (Below.refl _ _), Ke.refl _ _⟩
  | true =>
    rw [if_neg (by simp)] at hr
    unfold clkB at hck
    simp only [Bool.and_eq_true, decide_eq_true_eq] at hck
    obtain ⟨hn1, hn2⟩ := hck
    obtain ⟨N, rfl⟩ := Int.eq_ofNat_of_zero_le hn1
    obtain ⟨G, rfl⟩ := Int.eq_ofNat_of_zero_le hg
    have HGG := Lib.hid (And.intro hg hg2)
    obtain ⟨A, c, hAc⟩ : ∃ A c, Bk u bb 46 (bkc A b.l.length c (G : Int) most b.nx) ∧ OL13 u B A c b.l := by
      obtain ⟨⟨A, c, h1, h2⟩, _, _⟩ := h
      exact ⟨A, c, h1, h2⟩
    have HK0 := Lib.hid hAc.1
    have HO0 := Lib.hid hAc.2
    obtain ⟨l, nx⟩ := b
    dsimp only at HK0 HO0 hl hup hr HTL
    obtain ⟨n, hn⟩ : ∃ n, l.length = n := ⟨_, rfl⟩
    have HN := Lib.hid hn
    have HUP := Lib.hid hup
    have HRR := Lib.hid hr
    have HNM := Lib.hid (lpX_name (G : Int) (N : Int))
    rw [hn] at HK0 hl
    clear hAc h hup hg hg2 hn1 hn2 hn hr
    have e0 : u.cell? ⟨bb, 0, none⟩ = some (.slice A n c) := HK0.out.cell 0
    go_enter Try.func24, Try.ntmps24
    go_wp2_with (go_at_call 41; (with_reducible refine (HC.out _).mono ?_); rintro e u5 ⟨rfl, hu⟩; rw [hu]; clear hu)
    clear e0
    go_loopw [5, 7] (fun v5 v7 wr => ∃ (i m : Nat) (Ao : Option Addr) (co : Nat), i ≤ n ∧ m ≤ i ∧ v5 = .slice Ao m co ∧ v7 = .int .i64 (i : Int) ∧ Hid (((l.take i).filter (fun (x : Ls) => x.held && decide (x.till ≤ (N : Int)))).length = m) ∧ Hid (OL13 wr u.heap.size Ao co ((l.take i).filter (fun (x : Ls) => x.held && decide (x.till ≤ (N : Int))))) ∧ Hid (LvI u wr bb (G : Int) most ⟨l, nx⟩ ⟨(cpL (lpX (G : Int) (N : Int)) (fun (x : Ls) => heL x (N : Int) || kpL (G : Int) x (N : Int)) l i), nx⟩ Ao m co)) (fun v5 v7 _ => n - (intOf v7).toNat)
    case atStart => exact ⟨0, 0, none, 0, by omega, by omega, rfl, rfl, Lib.hid rfl, Lib.hid (Ow.nil _ _), Lib.hid (.inl ⟨Below.refl _ _, rfl⟩)⟩
    case round =>
      obtain ⟨i, m, Ao, co, hi, hm, rfl, rfl, HM, HO, HV⟩ := hrel
      have hlt : bb < B := HL.out.lt
      have HOW := Lib.hid (HO0.out.keep fun g2 cs hg2 hh => hh.ke HV.out.ke (by simp; omega))
      by_cases hi1 : i < n
      · have hi2 : (i : Int) < (n : Int) := by omega
        obtain ⟨bx, o, x, rfl, hx, hc⟩ := row6 (Ow.rw_ (f := lsc) (k := 6) (fun _ => rfl) HOW.out) i (by rw [HN.out]; exact hi1)
        obtain ⟨c0, c1, c2, c3, c4, c5⟩ := hc wr (Below.refl _ _)
        have HX := Lib.hid hx
        have HTX := Lib.hid (HTL.out x (List.mem_of_getElem? hx))
        clear hc hx hlt HOW
        obtain ⟨xn, xt, xc, xe, xu, xh⟩ := x
        obtain ⟨U, hU⟩ := Int.eq_ofNat_of_zero_le HTX.out.1
        dsimp only at hU
        subst hU
        have HUB := Lib.hid (show (U : Int) ≤ 1125899906842624 - 1073741824 from HTX.out.2)
        obtain ⟨S, hS⟩ : ∃ S : Nat, (U : Int) + (G : Int) = (S : Int) := ⟨U + G, by omega⟩
        have HSU := Lib.hid hS
        have hw := (iwrap ((U : Int) + (G : Int)) S hS (by have := HUB.out; have := HGG.out.2; omega)).1
        have HFI := Lib.hid (fi_next (fun (x : Ls) => x.held && decide (x.till ≤ (N : Int))) HX.out)
        have HPT := Lib.hid (cp_put (f := (lpX (G : Int) (N : Int))) (fun (x : Ls) => heL x (N : Int) || kpL (G : Int) x (N : Int)) HNM.out HX.out HUP.out)
        clear hS HTX
        dsimp only at c0 c1 c2 c3 c4 c5
        go_upto_region 9 with fail
        obtain ⟨gx, hgx⟩ : ∃ gx, wr.heap.size = gx := ⟨_, rfl⟩
        obtain ⟨v1, hv1⟩ : ∃ v, wr.alloc (.cells #[.string xn, .string xt, .int .i64 xc, .int .i64 xe, .int .i64 (U : Int), .bool xh] 32) = v := ⟨_, rfl⟩
        have HB1 := Lib.hid (show Below wr.heap.size wr v1 by rw [← hv1]; exact (Below.refl _ _).alloc (Nat.le_refl _) _)
        have HX1 := Lib.hid (show Bk v1 gx 32 #[.string xn, .string xt, .int .i64 xc, .int .i64 xe, .int .i64 (U : Int), .bool xh] by rw [← hv1, ← hgx]; exact Bk.new _ _ _)
        have HGX := Lib.hid hgx
        try dsimp only
        rw [hv1]
        try rw [hgx]
        clear hv1 hgx c0 c1 c2 c3 c4 c5
        by_cases hhit : xh = true ∧ U ≤ N
        · obtain ⟨rfl, hun⟩ := hhit
          have hb1 : (U : Int) ≤ (N : Int) := by omega
          have HP0 := Lib.hid (show ((⟨xn, xt, xc, xe, (U : Int), true⟩ : Ls).held && decide ((⟨xn, xt, xc, xe, (U : Int), true⟩ : Ls).till ≤ (N : Int))) = true by show (true && decide ((U : Int) ≤ (N : Int))) = true; rw [decide_eq_true hb1]; rfl)
          have HFX := Lib.hid (show (lpX (G : Int) (N : Int)) ⟨xn, xt, xc, xe, (U : Int), true⟩ = ⟨xn, xt, xc, xe, (S : Int), false⟩ by unfold lpX; rw [if_pos HP0.out]; show (⟨xn, xt, xc, xe, (U : Int) + (G : Int), false⟩ : Ls) = _; rw [HSU.out])
          have y0 : v1.cell? ⟨gx, 0, none⟩ = some (.string xn) := HX1.out.cell 0
          have y1 : v1.cell? ⟨gx, 1, none⟩ = some (.string xt) := HX1.out.cell 1
          have y2 : v1.cell? ⟨gx, 2, none⟩ = some (.int .i64 xc) := HX1.out.cell 2
          have y3 : v1.cell? ⟨gx, 3, none⟩ = some (.int .i64 xe) := HX1.out.cell 3
          have y4 : v1.cell? ⟨gx, 4, none⟩ = some (.int .i64 (U : Int)) := HX1.out.cell 4
          have y5 : v1.cell? ⟨gx, 5, none⟩ = some (.bool true) := HX1.out.cell 5
          have k0 := HX1.out.frozen 0
          have k1 := HX1.out.frozen 1
          have k2 := HX1.out.frozen 2
          have k3 := HX1.out.frozen 3
          have k4 := HX1.out.frozen 4
          have k5 := HX1.out.frozen 5
          go_upto_region 10 with fail
          have HB4 := Lib.hid (show Below wr.heap.size wr (v1.alloc (.cells #[.string xn, .string xt, .int .i64 xc, .int .i64 xe, .int .i64 (U : Int), .bool true] 32)) from HB1.out.alloc HB1.out.size _)
          have HOA := Lib.hid (HO.out.on HB4.out)
          have HX3 := Lib.hid (HX1.out.below ((Below.refl v1.heap.size v1).alloc (Nat.le_refl _) (.cells #[.string xn, .string xt, .int .i64 xc, .int .i64 xe, .int .i64 (U : Int), .bool true] 32)) HX1.out.lt)
          have HRX := Lib.hid (Rw.bk (f := lsc) (k := 6) (x := ⟨xn, xt, xc, xe, (U : Int), true⟩) (Bk.new v1 32 #[.string xn, .string xt, .int .i64 xc, .int .i64 xe, .int .i64 (U : Int), .bool true]))
          have HSZ := Lib.hid (show u.heap.size ≤ (v1.alloc (.cells #[.string xn, .string xt, .int .i64 xc, .int .i64 xe, .int .i64 (U : Int), .bool true] 32)).heap.size from Nat.le_trans HV.out.ke.size HB4.out.size)
          go_upto_region 11 with (at_builtin; refine wp_rows_at roL rfl (.tmp 34) (.tmp 36) rfl m rfl HM.out HOA.out ⟨xn, xt, xc, xe, (U : Int), true⟩ v1.heap.size 1 rfl HRX.out (by omega) HSZ.out (m + 1) rfl ?_; intro g9 c9 w9 ho9 hg9 hb9 hat9; have HO9 := Lib.hid ho9; have HG9 := Lib.hid (gb_from HB4.out hg9); have HGN := Lib.hid hg9; have HB9 := Lib.hid ((HB4.out.mono HV.out.ke.size).trans hb9); have HAT := Lib.hid hat9; clear ho9 hg9 hb9 hat9)
          have hgx0 := HGX.out
          have HNE := Lib.hid (show ¬ (some gx = (Value.slice Ao m co).ownBlock) from fun e => by
            have := (Ow.block HO.out m gx e.symm).2.1
            omega)
          have HNE2 := Lib.hid (show g9 ≠ gx from fun e => by
            rcases HAT.out with h | h
            · exact HNE.out (by rw [h, e])
            · have h1 := HX1.out.lt
              have h2 : (v1.alloc (.cells #[.string xn, .string xt, .int .i64 xc, .int .i64 xe, .int .i64 (U : Int), .bool true] 32)).heap.size = v1.heap.size + 1 := World.size_alloc _ _
              omega)
          have HX9 := Lib.hid (show Bk w9 gx 32 #[.string xn, .string xt, .int .i64 xc, .int .i64 xe, .int .i64 (U : Int), .bool true] from (HGN.out.block gx HX3.out.lt HNE.out).trans HX3.out)
          clear HB1 HX1 HX3 HRX HOA y0 y1 y2 y3 y4 y5 k0 k1 k2 k3 k4 k5 HAT hun hb1
          have y0 : w9.cell? ⟨gx, 0, none⟩ = some (.string xn) := HX9.out.cell 0
          have y1 : w9.cell? ⟨gx, 1, none⟩ = some (.string xt) := HX9.out.cell 1
          have y2 : w9.cell? ⟨gx, 2, none⟩ = some (.int .i64 xc) := HX9.out.cell 2
          have y3 : w9.cell? ⟨gx, 3, none⟩ = some (.int .i64 xe) := HX9.out.cell 3
          have y4 : w9.cell? ⟨gx, 4, none⟩ = some (.int .i64 (U : Int)) := HX9.out.cell 4
          have y5 : w9.cell? ⟨gx, 5, none⟩ = some (.bool true) := HX9.out.cell 5
          have k0 := HX9.out.frozen 0
          have k1 := HX9.out.frozen 1
          have k2 := HX9.out.frozen 2
          have k3 := HX9.out.frozen 3
          have k4 := HX9.out.frozen 4
          have k5 := HX9.out.frozen 5
          go_upto_region 12 with fail
          obtain ⟨w10, hw10⟩ : ∃ v, w9.setCell ⟨gx, 5, none⟩ (.bool false) = v := ⟨_, rfl⟩
          have HG10 := Lib.hid (show wr.grownBy w10 (Value.slice Ao m co).ownBlock by rw [← hw10]; exact gb_after HG9.out (p := ⟨gx, 5, none⟩) (by show wr.heap.size ≤ gx; omega) _)
          have HB10 := Lib.hid (show Below u.heap.size wr w10 by rw [← hw10]; exact HB9.out.setCell (p := ⟨gx, 5, none⟩) (by show u.heap.size ≤ gx; have := HV.out.ke.size; omega) _)
          have HO10 := Lib.hid (show OL13 w10 u.heap.size (some ⟨g9, 0, none⟩) c9 ((l.take i).filter (fun (x : Ls) => x.held && decide (x.till ≤ (N : Int))) ++ [⟨xn, xt, xc, xe, (U : Int), true⟩]) by rw [← hw10]; exact Ow.apart HO9.out (p := ⟨gx, 5, none⟩) HNE2.out _)
          have HX10 := Lib.hid (show Bk w10 gx 32 #[.string xn, .string xt, .int .i64 xc, .int .i64 xe, .int .i64 (U : Int), .bool false] by rw [← hw10]; simpa only [List.setIfInBounds_toArray, List.set_cons_zero, List.set_cons_succ] using HX9.out.set 5 (.bool false))
          rw [hw10]
          clear hw10 HG9 HB9 HO9 HX9 y0 y1 y2 y3 y4 y5 k0 k1 k2 k3 k4 k5
          have y0 : w10.cell? ⟨gx, 0, none⟩ = some (.string xn) := HX10.out.cell 0
          have y1 : w10.cell? ⟨gx, 1, none⟩ = some (.string xt) := HX10.out.cell 1
          have y2 : w10.cell? ⟨gx, 2, none⟩ = some (.int .i64 xc) := HX10.out.cell 2
          have y3 : w10.cell? ⟨gx, 3, none⟩ = some (.int .i64 xe) := HX10.out.cell 3
          have y4 : w10.cell? ⟨gx, 4, none⟩ = some (.int .i64 (U : Int)) := HX10.out.cell 4
          have y5 : w10.cell? ⟨gx, 5, none⟩ = some (.bool false) := HX10.out.cell 5
          have k0 := HX10.out.frozen 0
          have k1 := HX10.out.frozen 1
          have k2 := HX10.out.frozen 2
          have k3 := HX10.out.frozen 3
          have k4 := HX10.out.frozen 4
          have k5 := HX10.out.frozen 5
          have e1 : w10.cell? ⟨bb, 1, none⟩ = some (.int .i64 (G : Int)) := by
            obtain ⟨⟨⟨A3, c3, h1, _⟩, _, _⟩, _⟩ := HV.out.app HL.out HG10.out HB10.out
            exact h1.cell 1
          go_region
          go_upto_region 13 with fail
          try rw [hw]
          obtain ⟨w11, hw11⟩ : ∃ v, (w10.setCell ⟨gx, 4, none⟩ (.int .i64 (S : Int))).drew = v := ⟨_, rfl⟩
          have HG11 := Lib.hid (show wr.grownBy w11 (Value.slice Ao m co).ownBlock by rw [← hw11]; have k := gb_after HG10.out (p := ⟨gx, 4, none⟩) (by show wr.heap.size ≤ gx; omega) (.int .i64 (S : Int)); exact ⟨k.os, k.tape, k.output, k.size, k.block⟩)
          have HB11 := Lib.hid (show Below u.heap.size wr w11 by rw [← hw11]; exact (HB10.out.setCell (p := ⟨gx, 4, none⟩) (by show u.heap.size ≤ gx; have := HV.out.ke.size; omega) _).drew)
          have HO11 := Lib.hid (show OL13 w11 u.heap.size (some ⟨g9, 0, none⟩) c9 ((l.take i).filter (fun (x : Ls) => x.held && decide (x.till ≤ (N : Int))) ++ [⟨xn, xt, xc, xe, (U : Int), true⟩]) by rw [← hw11]; exact (Ow.apart HO10.out (p := ⟨gx, 4, none⟩) HNE2.out _).keep (fun _ _ _ hh => hh.drew))
          have HX11 := Lib.hid (show Bk w11 gx 32 #[.string xn, .string xt, .int .i64 xc, .int .i64 xe, .int .i64 (S : Int), .bool false] by rw [← hw11]; have k := HX10.out.set 4 (.int .i64 (S : Int)); simp only [List.setIfInBounds_toArray, List.set_cons_zero, List.set_cons_succ] at k; exact k.drew)
          rw [hw11]
          clear hw11 hw HG10 HB10 HO10 HX10 y0 y1 y2 y3 y4 y5 k0 k1 k2 k3 k4 k5 e1
          have y0 : w11.cell? ⟨gx, 0, none⟩ = some (.string xn) := HX11.out.cell 0
          have y1 : w11.cell? ⟨gx, 1, none⟩ = some (.string xt) := HX11.out.cell 1
          have y2 : w11.cell? ⟨gx, 2, none⟩ = some (.int .i64 xc) := HX11.out.cell 2
          have y3 : w11.cell? ⟨gx, 3, none⟩ = some (.int .i64 xe) := HX11.out.cell 3
          have y4 : w11.cell? ⟨gx, 4, none⟩ = some (.int .i64 (S : Int)) := HX11.out.cell 4
          have y5 : w11.cell? ⟨gx, 5, none⟩ = some (.bool false) := HX11.out.cell 5
          have k0 := HX11.out.frozen 0
          have k1 := HX11.out.frozen 1
          have k2 := HX11.out.frozen 2
          have k3 := HX11.out.frozen 3
          have k4 := HX11.out.frozen 4
          have k5 := HX11.out.frozen 5
          have HA := Lib.hid (HV.out.app HL.out HG11.out HB11.out)
          have HP := Lib.hid (lrput_ok w11 bb B (G : Int) most ⟨(cpL (lpX (G : Int) (N : Int)) (fun (x : Ls) => heL x (N : Int) || kpL (G : Int) x (N : Int)) l i), nx⟩ ⟨xn, xt, xc, xe, (S : Int), false⟩ HA.out.1 (Nat.le_trans (cp_len (lpX (G : Int) (N : Int)) (fun (x : Ls) => heL x (N : Int) || kpL (G : Int) x (N : Int)) l i) (by rw [HN.out]; exact hl)) (cp_up (fun (x : Ls) => heL x (N : Int) || kpL (G : Int) x (N : Int)) HNM.out HUP.out i))
          clear hgx0
          go_upto_region 14 with (go_at_call 39; (with_reducible refine HP.out.mono ?_); rintro e w12 ⟨rfl, hr, hk⟩; have HR12 := Lib.hid hr; have HK12 := Lib.hid hk; clear hr hk)
          have HXC := Lib.hid (HX11.out.ke HK12.out (by have h1 := HL.out.lt; have h2 := HL.out.bs; have h3 := HV.out.ke.size; have h4 := HGX.out; simp; omega))
          have HO1 := Lib.hid (HO11.out.keep fun g2 cs hg2 (hh : Bk w11 g2 _ cs) => hh.ke HK12.out (by have h1 := HL.out.lt; have h2 := HL.out.bs; simp; omega))
          have HV1 := Lib.hid (show LvI u w12 bb (G : Int) most ⟨l, nx⟩ ⟨((l.take i).map (lpX (G : Int) (N : Int))).filter (fun (x : Ls) => heL x (N : Int) || kpL (G : Int) x (N : Int)) ++ (⟨xn, xt, xc, xe, (S : Int), false⟩ : Ls) :: l.drop (i + 1), nx⟩ (some ⟨g9, 0, none⟩) (m + 1) c9 from LvI.put HA.out.2 (by have h1 := HPT.out; rw [HFX.out] at h1; show Lr w12 bb _ _ _ ⟨((l.take i).map (lpX (G : Int) (N : Int))).filter (fun (x : Ls) => heL x (N : Int) || kpL (G : Int) x (N : Int)) ++ (⟨xn, xt, xc, xe, (S : Int), false⟩ : Ls) :: l.drop (i + 1), nx⟩; rw [← h1]; exact HR12.out) HK12.out HO11.out (m + 1))
          have HM1 := Lib.hid (show ((l.take i).filter (fun (x : Ls) => x.held && decide (x.till ≤ (N : Int))) ++ [(⟨xn, xt, xc, xe, (U : Int), true⟩ : Ls)]).length = m + 1 by rw [List.length_append, HM.out]; rfl)
          have HOUT := Lib.hid (show (l.take (i + 1)).filter (fun (x : Ls) => x.held && decide (x.till ≤ (N : Int))) = (l.take i).filter (fun (x : Ls) => x.held && decide (x.till ≤ (N : Int))) ++ [⟨xn, xt, xc, xe, (U : Int), true⟩] by rw [HFI.out, if_pos HP0.out])
          clear y0 y1 y2 y3 y4 y5 k0 k1 k2 k3 k4 k5 HX11 HG11 HB11 HA HP
          have y0 : w12.cell? ⟨gx, 0, none⟩ = some (.string xn) := HXC.out.cell 0
          have y1 : w12.cell? ⟨gx, 1, none⟩ = some (.string xt) := HXC.out.cell 1
          have y2 : w12.cell? ⟨gx, 2, none⟩ = some (.int .i64 xc) := HXC.out.cell 2
          have y3 : w12.cell? ⟨gx, 3, none⟩ = some (.int .i64 xe) := HXC.out.cell 3
          have y4 : w12.cell? ⟨gx, 4, none⟩ = some (.int .i64 (S : Int)) := HXC.out.cell 4
          have y5 : w12.cell? ⟨gx, 5, none⟩ = some (.bool false) := HXC.out.cell 5
          have k0 := HXC.out.frozen 0
          have k1 := HXC.out.frozen 1
          have k2 := HXC.out.frozen 2
          have k3 := HXC.out.frozen 3
          have k4 := HXC.out.frozen 4
          have k5 := HXC.out.frozen 5
          have HH := Lib.hid (fun w => lrheld_ok ⟨xn, xt, xc, xe, (S : Int), false⟩ (N : Int) w)
          have HKP := Lib.hid (fun w (hw : Lr w bb B (G : Int) most ⟨((l.take i).map (lpX (G : Int) (N : Int))).filter (fun (x : Ls) => heL x (N : Int) || kpL (G : Int) x (N : Int)) ++ (⟨xn, xt, xc, xe, (S : Int), false⟩ : Ls) :: l.drop (i + 1), nx⟩) => lrkept_ok w bb B (G : Int) most _ ⟨xn, xt, xc, xe, (S : Int), false⟩ (N : Int) hw HGG.out.1 HGG.out.2 (by show (0 : Int) ≤ (S : Int); omega) (by show (S : Int) ≤ _; have := HUB.out; have := HSU.out; have := HGG.out.2; omega))
          have HLEN := Lib.hid (show (((l.take i).map (lpX (G : Int) (N : Int))).filter (fun (x : Ls) => heL x (N : Int) || kpL (G : Int) x (N : Int)) ++ (⟨xn, xt, xc, xe, (S : Int), false⟩ : Ls) :: l.drop (i + 1)).length ≤ 1000000 by have h1 := cp_mlen (lpX (G : Int) (N : Int)) (fun (x : Ls) => heL x (N : Int) || kpL (G : Int) x (N : Int)) HX.out; rw [HFX.out, HN.out] at h1; exact Nat.le_trans h1 hl)
          have HDR := Lib.hid (show drL xn (((l.take i).map (lpX (G : Int) (N : Int))).filter (fun (x : Ls) => heL x (N : Int) || kpL (G : Int) x (N : Int)) ++ (⟨xn, xt, xc, xe, (S : Int), false⟩ : Ls) :: l.drop (i + 1)) = (((l.take i).map (lpX (G : Int) (N : Int))).filter (fun (x : Ls) => heL x (N : Int) || kpL (G : Int) x (N : Int)) ++ l.drop (i + 1)) by have h1 := cp_drop (fun (x : Ls) => heL x (N : Int) || kpL (G : Int) x (N : Int)) HNM.out HX.out HUP.out; rw [HFX.out] at h1; exact h1)
          obtain ⟨kv, hkv⟩ : ∃ v, kpL (G : Int) ⟨xn, xt, xc, xe, (S : Int), false⟩ (N : Int) = v := ⟨_, rfl⟩
          simp only [hkv] at HKP
          have HKV := Lib.hid hkv
          clear hkv
          have HHV := Lib.hid (show heL ⟨xn, xt, xc, xe, (S : Int), false⟩ (N : Int) = false from rfl)
          rw [HHV.out] at HH
          cases kv with
          | true =>
            have HC2 := Lib.hid (show (cpL (lpX (G : Int) (N : Int)) (fun (x : Ls) => heL x (N : Int) || kpL (G : Int) x (N : Int)) l (i + 1)) = ((l.take i).map (lpX (G : Int) (N : Int))).filter (fun (x : Ls) => heL x (N : Int) || kpL (G : Int) x (N : Int)) ++ (⟨xn, xt, xc, xe, (S : Int), false⟩ : Ls) :: l.drop (i + 1) by rw [cp_next (lpX (G : Int) (N : Int)) (fun (x : Ls) => heL x (N : Int) || kpL (G : Int) x (N : Int)) HX.out, HFX.out, if_pos (by show (heL ⟨xn, xt, xc, xe, (S : Int), false⟩ (N : Int) || kpL (G : Int) ⟨xn, xt, xc, xe, (S : Int), false⟩ (N : Int)) = true; rw [HKV.out, Bool.or_true])])
            go_wp2_with (first | (go_at_call 46; (with_reducible refine (HH.out _).mono ?_); rintro e q2 ⟨rfl, hb⟩; have HB2 := Lib.hid (show Below w12.heap.size w12 q2 from hb); have HX2 := Lib.hid (HXC.out.below hb HXC.out.lt); have z0 : q2.cell? ⟨gx, 0, none⟩ = some (.string xn) := HX2.out.cell 0; have z1 : q2.cell? ⟨gx, 1, none⟩ = some (.string xt) := HX2.out.cell 1; have z2 : q2.cell? ⟨gx, 2, none⟩ = some (.int .i64 xc) := HX2.out.cell 2; have z3 : q2.cell? ⟨gx, 3, none⟩ = some (.int .i64 xe) := HX2.out.cell 3; have z4 : q2.cell? ⟨gx, 4, none⟩ = some (.int .i64 (S : Int)) := HX2.out.cell 4; have z5 : q2.cell? ⟨gx, 5, none⟩ = some (.bool false) := HX2.out.cell 5; clear hb) | (go_at_call 49; (with_reducible refine (HKP.out _ ((HV1.out.on HB2.out).lr HL.out)).mono ?_); rintro e q3 ⟨rfl, hb⟩; have HB3 := Lib.hid (HB2.out.trans (hb.mono HB2.out.size)); have HX3 := Lib.hid (HX2.out.below hb HX2.out.lt); have s0 : q3.cell? ⟨gx, 0, none⟩ = some (.string xn) := HX3.out.cell 0; have s1 : q3.cell? ⟨gx, 1, none⟩ = some (.string xt) := HX3.out.cell 1; have s2 : q3.cell? ⟨gx, 2, none⟩ = some (.int .i64 xc) := HX3.out.cell 2; have s3 : q3.cell? ⟨gx, 3, none⟩ = some (.int .i64 xe) := HX3.out.cell 3; have s4 : q3.cell? ⟨gx, 4, none⟩ = some (.int .i64 (S : Int)) := HX3.out.cell 4; have s5 : q3.cell? ⟨gx, 5, none⟩ = some (.bool false) := HX3.out.cell 5; clear hb))
            go_roundw
            case rel => exact ⟨i + 1, m + 1, some ⟨g9, 0, none⟩, c9, by omega, by omega, by first | rfl | go_num, by go_num, Lib.hid (by rw [HOUT.out]; exact HM1.out), Lib.hid (by rw [HOUT.out]; exact HO1.out.on HB3.out), Lib.hid (by rw [HC2.out]; exact HV1.out.on HB3.out)⟩
            case measure => simp [intOf]; omega
          | false =>
            have HC2 := Lib.hid (show (cpL (lpX (G : Int) (N : Int)) (fun (x : Ls) => heL x (N : Int) || kpL (G : Int) x (N : Int)) l (i + 1)) = ((l.take i).map (lpX (G : Int) (N : Int))).filter (fun (x : Ls) => heL x (N : Int) || kpL (G : Int) x (N : Int)) ++ l.drop (i + 1) by rw [cp_next (lpX (G : Int) (N : Int)) (fun (x : Ls) => heL x (N : Int) || kpL (G : Int) x (N : Int)) HX.out, HFX.out, if_neg (by show ¬ (heL ⟨xn, xt, xc, xe, (S : Int), false⟩ (N : Int) || kpL (G : Int) ⟨xn, xt, xc, xe, (S : Int), false⟩ (N : Int)) = true; rw [HHV.out, HKV.out]; simp)])
            go_upto_region 15 with (first | (go_at_call 46; (with_reducible refine (HH.out _).mono ?_); rintro e q2 ⟨rfl, hb⟩; have HB2 := Lib.hid (show Below w12.heap.size w12 q2 from hb); have HX2 := Lib.hid (HXC.out.below hb HXC.out.lt); have z0 : q2.cell? ⟨gx, 0, none⟩ = some (.string xn) := HX2.out.cell 0; have z1 : q2.cell? ⟨gx, 1, none⟩ = some (.string xt) := HX2.out.cell 1; have z2 : q2.cell? ⟨gx, 2, none⟩ = some (.int .i64 xc) := HX2.out.cell 2; have z3 : q2.cell? ⟨gx, 3, none⟩ = some (.int .i64 xe) := HX2.out.cell 3; have z4 : q2.cell? ⟨gx, 4, none⟩ = some (.int .i64 (S : Int)) := HX2.out.cell 4; have z5 : q2.cell? ⟨gx, 5, none⟩ = some (.bool false) := HX2.out.cell 5; clear hb) | (go_at_call 49; (with_reducible refine (HKP.out _ ((HV1.out.on HB2.out).lr HL.out)).mono ?_); rintro e q3 ⟨rfl, hb⟩; have HB3 := Lib.hid (HB2.out.trans (hb.mono HB2.out.size)); have HX3 := Lib.hid (HX2.out.below hb HX2.out.lt); have s0 : q3.cell? ⟨gx, 0, none⟩ = some (.string xn) := HX3.out.cell 0; have s1 : q3.cell? ⟨gx, 1, none⟩ = some (.string xt) := HX3.out.cell 1; have s2 : q3.cell? ⟨gx, 2, none⟩ = some (.int .i64 xc) := HX3.out.cell 2; have s3 : q3.cell? ⟨gx, 3, none⟩ = some (.int .i64 xe) := HX3.out.cell 3; have s4 : q3.cell? ⟨gx, 4, none⟩ = some (.int .i64 (S : Int)) := HX3.out.cell 4; have s5 : q3.cell? ⟨gx, 5, none⟩ = some (.bool false) := HX3.out.cell 5; clear hb))
            have HP := Lib.hid (lrdrop_ok q3 bb B (G : Int) most ⟨((l.take i).map (lpX (G : Int) (N : Int))).filter (fun (x : Ls) => heL x (N : Int) || kpL (G : Int) x (N : Int)) ++ (⟨xn, xt, xc, xe, (S : Int), false⟩ : Ls) :: l.drop (i + 1), nx⟩ xn ((HV1.out.on HB3.out).lr HL.out) HLEN.out)
            go_wp2_with (go_at_call 42; (with_reducible refine HP.out.mono ?_); rintro e q4 ⟨rfl, hr, hk⟩; have HR4 := Lib.hid hr; have HK4 := Lib.hid hk; clear hr hk)
            go_roundw
            case rel => exact ⟨i + 1, m + 1, some ⟨g9, 0, none⟩, c9, by omega, by omega, by first | rfl | go_num, by go_num, Lib.hid (by rw [HOUT.out]; exact HM1.out), Lib.hid (by rw [HOUT.out]; exact (HO1.out.on HB3.out).keep fun g2 cs hg2 hh => hh.ke HK4.out (by have h1 := HL.out.lt; have h2 := HL.out.bs; simp; omega)), Lib.hid (LvI.put (HV1.out.on HB3.out).ke (by rw [HC2.out, ← HDR.out]; exact HR4.out) HK4.out (HO1.out.on HB3.out) (m + 1))⟩
            case measure => simp [intOf]; omega
        · have HP0 := Lib.hid (show ((⟨xn, xt, xc, xe, (U : Int), xh⟩ : Ls).held && decide ((⟨xn, xt, xc, xe, (U : Int), xh⟩ : Ls).till ≤ (N : Int))) = false by
            show (xh && decide ((U : Int) ≤ (N : Int))) = false
            cases xh with
            | false => rfl
            | true => rw [Bool.true_and]; exact decide_eq_false (fun e => hhit ⟨rfl, by omega⟩))
          have HFX := Lib.hid (show (lpX (G : Int) (N : Int)) ⟨xn, xt, xc, xe, (U : Int), xh⟩ = ⟨xn, xt, xc, xe, (U : Int), xh⟩ by unfold lpX; rw [HP0.out, if_neg (by simp)])
          have HM1 := HM
          have HO1 := Lib.hid (HO.out.on HB1.out)
          have HV1 := Lib.hid (show LvI u v1 bb (G : Int) most ⟨l, nx⟩ ⟨((l.take i).map (lpX (G : Int) (N : Int))).filter (fun (x : Ls) => heL x (N : Int) || kpL (G : Int) x (N : Int)) ++ (⟨xn, xt, xc, xe, (U : Int), xh⟩ : Ls) :: l.drop (i + 1), nx⟩ Ao m co by
            have h1 := HV.out.on HB1.out
            rw [cp_at (lpX (G : Int) (N : Int)) (fun (x : Ls) => heL x (N : Int) || kpL (G : Int) x (N : Int)) HX.out] at h1
            exact h1)
          have HOUT := Lib.hid (show (l.take (i + 1)).filter (fun (x : Ls) => x.held && decide (x.till ≤ (N : Int))) = (l.take i).filter (fun (x : Ls) => x.held && decide (x.till ≤ (N : Int))) by rw [HFI.out, if_neg (by rw [HP0.out]; simp)])
          clear hw
          have y0 : v1.cell? ⟨gx, 0, none⟩ = some (.string xn) := HX1.out.cell 0
          have y1 : v1.cell? ⟨gx, 1, none⟩ = some (.string xt) := HX1.out.cell 1
          have y2 : v1.cell? ⟨gx, 2, none⟩ = some (.int .i64 xc) := HX1.out.cell 2
          have y3 : v1.cell? ⟨gx, 3, none⟩ = some (.int .i64 xe) := HX1.out.cell 3
          have y4 : v1.cell? ⟨gx, 4, none⟩ = some (.int .i64 (U : Int)) := HX1.out.cell 4
          have y5 : v1.cell? ⟨gx, 5, none⟩ = some (.bool xh) := HX1.out.cell 5
          have k0 := HX1.out.frozen 0
          have k1 := HX1.out.frozen 1
          have k2 := HX1.out.frozen 2
          have k3 := HX1.out.frozen 3
          have k4 := HX1.out.frozen 4
          have k5 := HX1.out.frozen 5
          have HH := Lib.hid (fun w => lrheld_ok ⟨xn, xt, xc, xe, (U : Int), xh⟩ (N : Int) w)
          have HKP := Lib.hid (fun w (hw : Lr w bb B (G : Int) most ⟨((l.take i).map (lpX (G : Int) (N : Int))).filter (fun (x : Ls) => heL x (N : Int) || kpL (G : Int) x (N : Int)) ++ (⟨xn, xt, xc, xe, (U : Int), xh⟩ : Ls) :: l.drop (i + 1), nx⟩) => lrkept_ok w bb B (G : Int) most _ ⟨xn, xt, xc, xe, (U : Int), xh⟩ (N : Int) hw HGG.out.1 HGG.out.2 (by show (0 : Int) ≤ (U : Int); omega) (by show (U : Int) ≤ _; have := HUB.out; have := HSU.out; have := HGG.out.2; omega))
          have HLEN := Lib.hid (show (((l.take i).map (lpX (G : Int) (N : Int))).filter (fun (x : Ls) => heL x (N : Int) || kpL (G : Int) x (N : Int)) ++ (⟨xn, xt, xc, xe, (U : Int), xh⟩ : Ls) :: l.drop (i + 1)).length ≤ 1000000 by have h1 := cp_mlen (lpX (G : Int) (N : Int)) (fun (x : Ls) => heL x (N : Int) || kpL (G : Int) x (N : Int)) HX.out; rw [HFX.out, HN.out] at h1; exact Nat.le_trans h1 hl)
          have HDR := Lib.hid (show drL xn (((l.take i).map (lpX (G : Int) (N : Int))).filter (fun (x : Ls) => heL x (N : Int) || kpL (G : Int) x (N : Int)) ++ (⟨xn, xt, xc, xe, (U : Int), xh⟩ : Ls) :: l.drop (i + 1)) = (((l.take i).map (lpX (G : Int) (N : Int))).filter (fun (x : Ls) => heL x (N : Int) || kpL (G : Int) x (N : Int)) ++ l.drop (i + 1)) by have h1 := cp_drop (fun (x : Ls) => heL x (N : Int) || kpL (G : Int) x (N : Int)) HNM.out HX.out HUP.out; rw [HFX.out] at h1; exact h1)
          obtain ⟨kv, hkv⟩ : ∃ v, kpL (G : Int) ⟨xn, xt, xc, xe, (U : Int), xh⟩ (N : Int) = v := ⟨_, rfl⟩
          simp only [hkv] at HKP
          have HKV := Lib.hid hkv
          clear hkv
          obtain ⟨hv, hhv⟩ : ∃ v, heL ⟨xn, xt, xc, xe, (U : Int), xh⟩ (N : Int) = v := ⟨_, rfl⟩
          simp only [hhv] at HH
          have HHV := Lib.hid hhv
          clear hhv
          cases xh with
          | false =>
            clear hhit
            cases hv with
            | true =>
              have HC2 := Lib.hid (show (cpL (lpX (G : Int) (N : Int)) (fun (x : Ls) => heL x (N : Int) || kpL (G : Int) x (N : Int)) l (i + 1)) = ((l.take i).map (lpX (G : Int) (N : Int))).filter (fun (x : Ls) => heL x (N : Int) || kpL (G : Int) x (N : Int)) ++ (⟨xn, xt, xc, xe, (U : Int), false⟩ : Ls) :: l.drop (i + 1) by rw [cp_next (lpX (G : Int) (N : Int)) (fun (x : Ls) => heL x (N : Int) || kpL (G : Int) x (N : Int)) HX.out, HFX.out, if_pos (by show (heL ⟨xn, xt, xc, xe, (U : Int), false⟩ (N : Int) || _) = true; rw [HHV.out, Bool.true_or])])
              go_wp2_with (go_at_call 46; (with_reducible refine (HH.out _).mono ?_); rintro e q2 ⟨rfl, hb⟩; have HB2 := Lib.hid (show Below v1.heap.size v1 q2 from hb); have HX2 := Lib.hid (HX1.out.below hb HX1.out.lt); have z0 : q2.cell? ⟨gx, 0, none⟩ = some (.string xn) := HX2.out.cell 0; have z1 : q2.cell? ⟨gx, 1, none⟩ = some (.string xt) := HX2.out.cell 1; have z2 : q2.cell? ⟨gx, 2, none⟩ = some (.int .i64 xc) := HX2.out.cell 2; have z3 : q2.cell? ⟨gx, 3, none⟩ = some (.int .i64 xe) := HX2.out.cell 3; have z4 : q2.cell? ⟨gx, 4, none⟩ = some (.int .i64 (U : Int)) := HX2.out.cell 4; have z5 : q2.cell? ⟨gx, 5, none⟩ = some (.bool false) := HX2.out.cell 5; clear hb)
              go_roundw
              case rel => exact ⟨i + 1, m, Ao, co, by omega, by omega, by first | rfl | go_num, by go_num, Lib.hid (by rw [HOUT.out]; exact HM1.out), Lib.hid (by rw [HOUT.out]; exact HO1.out.on HB2.out), Lib.hid (by rw [HC2.out]; exact HV1.out.on HB2.out)⟩
              case measure => simp [intOf]; omega
            | false =>
              cases kv with
              | true =>
                have HC2 := Lib.hid (show (cpL (lpX (G : Int) (N : Int)) (fun (x : Ls) => heL x (N : Int) || kpL (G : Int) x (N : Int)) l (i + 1)) = ((l.take i).map (lpX (G : Int) (N : Int))).filter (fun (x : Ls) => heL x (N : Int) || kpL (G : Int) x (N : Int)) ++ (⟨xn, xt, xc, xe, (U : Int), false⟩ : Ls) :: l.drop (i + 1) by rw [cp_next (lpX (G : Int) (N : Int)) (fun (x : Ls) => heL x (N : Int) || kpL (G : Int) x (N : Int)) HX.out, HFX.out, if_pos (by show (heL ⟨xn, xt, xc, xe, (U : Int), false⟩ (N : Int) || kpL (G : Int) ⟨xn, xt, xc, xe, (U : Int), false⟩ (N : Int)) = true; rw [HKV.out, Bool.or_true])])
                go_wp2_with (first | (go_at_call 46; (with_reducible refine (HH.out _).mono ?_); rintro e q2 ⟨rfl, hb⟩; have HB2 := Lib.hid (show Below v1.heap.size v1 q2 from hb); have HX2 := Lib.hid (HX1.out.below hb HX1.out.lt); have z0 : q2.cell? ⟨gx, 0, none⟩ = some (.string xn) := HX2.out.cell 0; have z1 : q2.cell? ⟨gx, 1, none⟩ = some (.string xt) := HX2.out.cell 1; have z2 : q2.cell? ⟨gx, 2, none⟩ = some (.int .i64 xc) := HX2.out.cell 2; have z3 : q2.cell? ⟨gx, 3, none⟩ = some (.int .i64 xe) := HX2.out.cell 3; have z4 : q2.cell? ⟨gx, 4, none⟩ = some (.int .i64 (U : Int)) := HX2.out.cell 4; have z5 : q2.cell? ⟨gx, 5, none⟩ = some (.bool false) := HX2.out.cell 5; clear hb) | (go_at_call 49; (with_reducible refine (HKP.out _ ((HV1.out.on HB2.out).lr HL.out)).mono ?_); rintro e q3 ⟨rfl, hb⟩; have HB3 := Lib.hid (HB2.out.trans (hb.mono HB2.out.size)); have HX3 := Lib.hid (HX2.out.below hb HX2.out.lt); have s0 : q3.cell? ⟨gx, 0, none⟩ = some (.string xn) := HX3.out.cell 0; have s1 : q3.cell? ⟨gx, 1, none⟩ = some (.string xt) := HX3.out.cell 1; have s2 : q3.cell? ⟨gx, 2, none⟩ = some (.int .i64 xc) := HX3.out.cell 2; have s3 : q3.cell? ⟨gx, 3, none⟩ = some (.int .i64 xe) := HX3.out.cell 3; have s4 : q3.cell? ⟨gx, 4, none⟩ = some (.int .i64 (U : Int)) := HX3.out.cell 4; have s5 : q3.cell? ⟨gx, 5, none⟩ = some (.bool false) := HX3.out.cell 5; clear hb))
                go_roundw
                case rel => exact ⟨i + 1, m, Ao, co, by omega, by omega, by first | rfl | go_num, by go_num, Lib.hid (by rw [HOUT.out]; exact HM1.out), Lib.hid (by rw [HOUT.out]; exact HO1.out.on HB3.out), Lib.hid (by rw [HC2.out]; exact HV1.out.on HB3.out)⟩
                case measure => simp [intOf]; omega
              | false =>
                have HC2 := Lib.hid (show (cpL (lpX (G : Int) (N : Int)) (fun (x : Ls) => heL x (N : Int) || kpL (G : Int) x (N : Int)) l (i + 1)) = ((l.take i).map (lpX (G : Int) (N : Int))).filter (fun (x : Ls) => heL x (N : Int) || kpL (G : Int) x (N : Int)) ++ l.drop (i + 1) by rw [cp_next (lpX (G : Int) (N : Int)) (fun (x : Ls) => heL x (N : Int) || kpL (G : Int) x (N : Int)) HX.out, HFX.out, if_neg (by show ¬ (heL ⟨xn, xt, xc, xe, (U : Int), false⟩ (N : Int) || kpL (G : Int) ⟨xn, xt, xc, xe, (U : Int), false⟩ (N : Int)) = true; rw [HHV.out, HKV.out]; simp)])
                go_upto_region 15 with (first | (go_at_call 46; (with_reducible refine (HH.out _).mono ?_); rintro e q2 ⟨rfl, hb⟩; have HB2 := Lib.hid (show Below v1.heap.size v1 q2 from hb); have HX2 := Lib.hid (HX1.out.below hb HX1.out.lt); have z0 : q2.cell? ⟨gx, 0, none⟩ = some (.string xn) := HX2.out.cell 0; have z1 : q2.cell? ⟨gx, 1, none⟩ = some (.string xt) := HX2.out.cell 1; have z2 : q2.cell? ⟨gx, 2, none⟩ = some (.int .i64 xc) := HX2.out.cell 2; have z3 : q2.cell? ⟨gx, 3, none⟩ = some (.int .i64 xe) := HX2.out.cell 3; have z4 : q2.cell? ⟨gx, 4, none⟩ = some (.int .i64 (U : Int)) := HX2.out.cell 4; have z5 : q2.cell? ⟨gx, 5, none⟩ = some (.bool false) := HX2.out.cell 5; clear hb) | (go_at_call 49; (with_reducible refine (HKP.out _ ((HV1.out.on HB2.out).lr HL.out)).mono ?_); rintro e q3 ⟨rfl, hb⟩; have HB3 := Lib.hid (HB2.out.trans (hb.mono HB2.out.size)); have HX3 := Lib.hid (HX2.out.below hb HX2.out.lt); have s0 : q3.cell? ⟨gx, 0, none⟩ = some (.string xn) := HX3.out.cell 0; have s1 : q3.cell? ⟨gx, 1, none⟩ = some (.string xt) := HX3.out.cell 1; have s2 : q3.cell? ⟨gx, 2, none⟩ = some (.int .i64 xc) := HX3.out.cell 2; have s3 : q3.cell? ⟨gx, 3, none⟩ = some (.int .i64 xe) := HX3.out.cell 3; have s4 : q3.cell? ⟨gx, 4, none⟩ = some (.int .i64 (U : Int)) := HX3.out.cell 4; have s5 : q3.cell? ⟨gx, 5, none⟩ = some (.bool false) := HX3.out.cell 5; clear hb))
                have HP := Lib.hid (lrdrop_ok q3 bb B (G : Int) most ⟨((l.take i).map (lpX (G : Int) (N : Int))).filter (fun (x : Ls) => heL x (N : Int) || kpL (G : Int) x (N : Int)) ++ (⟨xn, xt, xc, xe, (U : Int), false⟩ : Ls) :: l.drop (i + 1), nx⟩ xn ((HV1.out.on HB3.out).lr HL.out) HLEN.out)
                go_wp2_with (go_at_call 42; (with_reducible refine HP.out.mono ?_); rintro e q4 ⟨rfl, hr, hk⟩; have HR4 := Lib.hid hr; have HK4 := Lib.hid hk; clear hr hk)
                go_roundw
                case rel => exact ⟨i + 1, m, Ao, co, by omega, by omega, by first | rfl | go_num, by go_num, Lib.hid (by rw [HOUT.out]; exact HM1.out), Lib.hid (by rw [HOUT.out]; exact (HO1.out.on HB3.out).keep fun g2 cs hg2 hh => hh.ke HK4.out (by have h1 := HL.out.lt; have h2 := HL.out.bs; simp; omega)), Lib.hid (LvI.put (HV1.out.on HB3.out).ke (by rw [HC2.out, ← HDR.out]; exact HR4.out) HK4.out (HO1.out.on HB3.out) (m))⟩
                case measure => simp [intOf]; omega
          | true =>
            have hun : decide ((U : Int) ≤ (N : Int)) = false := decide_eq_false (fun e => hhit ⟨rfl, by omega⟩)
            have hun2 : ¬ (U : Int) ≤ (N : Int) := fun e => hhit ⟨rfl, by omega⟩
            clear hhit
            cases hv with
            | true =>
              have HC2 := Lib.hid (show (cpL (lpX (G : Int) (N : Int)) (fun (x : Ls) => heL x (N : Int) || kpL (G : Int) x (N : Int)) l (i + 1)) = ((l.take i).map (lpX (G : Int) (N : Int))).filter (fun (x : Ls) => heL x (N : Int) || kpL (G : Int) x (N : Int)) ++ (⟨xn, xt, xc, xe, (U : Int), true⟩ : Ls) :: l.drop (i + 1) by rw [cp_next (lpX (G : Int) (N : Int)) (fun (x : Ls) => heL x (N : Int) || kpL (G : Int) x (N : Int)) HX.out, HFX.out, if_pos (by show (heL ⟨xn, xt, xc, xe, (U : Int), true⟩ (N : Int) || _) = true; rw [HHV.out, Bool.true_or])])
              go_wp2_with (go_at_call 46; (with_reducible refine (HH.out _).mono ?_); rintro e q2 ⟨rfl, hb⟩; have HB2 := Lib.hid (show Below v1.heap.size v1 q2 from hb); have HX2 := Lib.hid (HX1.out.below hb HX1.out.lt); have z0 : q2.cell? ⟨gx, 0, none⟩ = some (.string xn) := HX2.out.cell 0; have z1 : q2.cell? ⟨gx, 1, none⟩ = some (.string xt) := HX2.out.cell 1; have z2 : q2.cell? ⟨gx, 2, none⟩ = some (.int .i64 xc) := HX2.out.cell 2; have z3 : q2.cell? ⟨gx, 3, none⟩ = some (.int .i64 xe) := HX2.out.cell 3; have z4 : q2.cell? ⟨gx, 4, none⟩ = some (.int .i64 (U : Int)) := HX2.out.cell 4; have z5 : q2.cell? ⟨gx, 5, none⟩ = some (.bool true) := HX2.out.cell 5; clear hb)
              go_roundw
              case rel => exact ⟨i + 1, m, Ao, co, by omega, by omega, by first | rfl | go_num, by go_num, Lib.hid (by rw [HOUT.out]; exact HM1.out), Lib.hid (by rw [HOUT.out]; exact HO1.out.on HB2.out), Lib.hid (by rw [HC2.out]; exact HV1.out.on HB2.out)⟩
              case measure => simp [intOf]; omega
            | false =>
              cases kv with
              | true =>
                have HC2 := Lib.hid (show (cpL (lpX (G : Int) (N : Int)) (fun (x : Ls) => heL x (N : Int) || kpL (G : Int) x (N : Int)) l (i + 1)) = ((l.take i).map (lpX (G : Int) (N : Int))).filter (fun (x : Ls) => heL x (N : Int) || kpL (G : Int) x (N : Int)) ++ (⟨xn, xt, xc, xe, (U : Int), true⟩ : Ls) :: l.drop (i + 1) by rw [cp_next (lpX (G : Int) (N : Int)) (fun (x : Ls) => heL x (N : Int) || kpL (G : Int) x (N : Int)) HX.out, HFX.out, if_pos (by show (heL ⟨xn, xt, xc, xe, (U : Int), true⟩ (N : Int) || kpL (G : Int) ⟨xn, xt, xc, xe, (U : Int), true⟩ (N : Int)) = true; rw [HKV.out, Bool.or_true])])
                go_wp2_with (first | (go_at_call 46; (with_reducible refine (HH.out _).mono ?_); rintro e q2 ⟨rfl, hb⟩; have HB2 := Lib.hid (show Below v1.heap.size v1 q2 from hb); have HX2 := Lib.hid (HX1.out.below hb HX1.out.lt); have z0 : q2.cell? ⟨gx, 0, none⟩ = some (.string xn) := HX2.out.cell 0; have z1 : q2.cell? ⟨gx, 1, none⟩ = some (.string xt) := HX2.out.cell 1; have z2 : q2.cell? ⟨gx, 2, none⟩ = some (.int .i64 xc) := HX2.out.cell 2; have z3 : q2.cell? ⟨gx, 3, none⟩ = some (.int .i64 xe) := HX2.out.cell 3; have z4 : q2.cell? ⟨gx, 4, none⟩ = some (.int .i64 (U : Int)) := HX2.out.cell 4; have z5 : q2.cell? ⟨gx, 5, none⟩ = some (.bool true) := HX2.out.cell 5; clear hb) | (go_at_call 49; (with_reducible refine (HKP.out _ ((HV1.out.on HB2.out).lr HL.out)).mono ?_); rintro e q3 ⟨rfl, hb⟩; have HB3 := Lib.hid (HB2.out.trans (hb.mono HB2.out.size)); have HX3 := Lib.hid (HX2.out.below hb HX2.out.lt); have s0 : q3.cell? ⟨gx, 0, none⟩ = some (.string xn) := HX3.out.cell 0; have s1 : q3.cell? ⟨gx, 1, none⟩ = some (.string xt) := HX3.out.cell 1; have s2 : q3.cell? ⟨gx, 2, none⟩ = some (.int .i64 xc) := HX3.out.cell 2; have s3 : q3.cell? ⟨gx, 3, none⟩ = some (.int .i64 xe) := HX3.out.cell 3; have s4 : q3.cell? ⟨gx, 4, none⟩ = some (.int .i64 (U : Int)) := HX3.out.cell 4; have s5 : q3.cell? ⟨gx, 5, none⟩ = some (.bool true) := HX3.out.cell 5; clear hb))
                go_roundw
                case rel => exact ⟨i + 1, m, Ao, co, by omega, by omega, by first | rfl | go_num, by go_num, Lib.hid (by rw [HOUT.out]; exact HM1.out), Lib.hid (by rw [HOUT.out]; exact HO1.out.on HB3.out), Lib.hid (by rw [HC2.out]; exact HV1.out.on HB3.out)⟩
                case measure => simp [intOf]; omega
              | false =>
                have HC2 := Lib.hid (show (cpL (lpX (G : Int) (N : Int)) (fun (x : Ls) => heL x (N : Int) || kpL (G : Int) x (N : Int)) l (i + 1)) = ((l.take i).map (lpX (G : Int) (N : Int))).filter (fun (x : Ls) => heL x (N : Int) || kpL (G : Int) x (N : Int)) ++ l.drop (i + 1) by rw [cp_next (lpX (G : Int) (N : Int)) (fun (x : Ls) => heL x (N : Int) || kpL (G : Int) x (N : Int)) HX.out, HFX.out, if_neg (by show ¬ (heL ⟨xn, xt, xc, xe, (U : Int), true⟩ (N : Int) || kpL (G : Int) ⟨xn, xt, xc, xe, (U : Int), true⟩ (N : Int)) = true; rw [HHV.out, HKV.out]; simp)])
                go_upto_region 15 with (first | (go_at_call 46; (with_reducible refine (HH.out _).mono ?_); rintro e q2 ⟨rfl, hb⟩; have HB2 := Lib.hid (show Below v1.heap.size v1 q2 from hb); have HX2 := Lib.hid (HX1.out.below hb HX1.out.lt); have z0 : q2.cell? ⟨gx, 0, none⟩ = some (.string xn) := HX2.out.cell 0; have z1 : q2.cell? ⟨gx, 1, none⟩ = some (.string xt) := HX2.out.cell 1; have z2 : q2.cell? ⟨gx, 2, none⟩ = some (.int .i64 xc) := HX2.out.cell 2; have z3 : q2.cell? ⟨gx, 3, none⟩ = some (.int .i64 xe) := HX2.out.cell 3; have z4 : q2.cell? ⟨gx, 4, none⟩ = some (.int .i64 (U : Int)) := HX2.out.cell 4; have z5 : q2.cell? ⟨gx, 5, none⟩ = some (.bool true) := HX2.out.cell 5; clear hb) | (go_at_call 49; (with_reducible refine (HKP.out _ ((HV1.out.on HB2.out).lr HL.out)).mono ?_); rintro e q3 ⟨rfl, hb⟩; have HB3 := Lib.hid (HB2.out.trans (hb.mono HB2.out.size)); have HX3 := Lib.hid (HX2.out.below hb HX2.out.lt); have s0 : q3.cell? ⟨gx, 0, none⟩ = some (.string xn) := HX3.out.cell 0; have s1 : q3.cell? ⟨gx, 1, none⟩ = some (.string xt) := HX3.out.cell 1; have s2 : q3.cell? ⟨gx, 2, none⟩ = some (.int .i64 xc) := HX3.out.cell 2; have s3 : q3.cell? ⟨gx, 3, none⟩ = some (.int .i64 xe) := HX3.out.cell 3; have s4 : q3.cell? ⟨gx, 4, none⟩ = some (.int .i64 (U : Int)) := HX3.out.cell 4; have s5 : q3.cell? ⟨gx, 5, none⟩ = some (.bool true) := HX3.out.cell 5; clear hb))
                have HP := Lib.hid (lrdrop_ok q3 bb B (G : Int) most ⟨((l.take i).map (lpX (G : Int) (N : Int))).filter (fun (x : Ls) => heL x (N : Int) || kpL (G : Int) x (N : Int)) ++ (⟨xn, xt, xc, xe, (U : Int), true⟩ : Ls) :: l.drop (i + 1), nx⟩ xn ((HV1.out.on HB3.out).lr HL.out) HLEN.out)
                go_wp2_with (go_at_call 42; (with_reducible refine HP.out.mono ?_); rintro e q4 ⟨rfl, hr, hk⟩; have HR4 := Lib.hid hr; have HK4 := Lib.hid hk; clear hr hk)
                go_roundw
                case rel => exact ⟨i + 1, m, Ao, co, by omega, by omega, by first | rfl | go_num, by go_num, Lib.hid (by rw [HOUT.out]; exact HM1.out), Lib.hid (by rw [HOUT.out]; exact (HO1.out.on HB3.out).keep fun g2 cs hg2 hh => hh.ke HK4.out (by have h1 := HL.out.lt; have h2 := HL.out.bs; simp; omega)), Lib.hid (LvI.put (HV1.out.on HB3.out).ke (by rw [HC2.out, ← HDR.out]; exact HR4.out) HK4.out (HO1.out.on HB3.out) (m))⟩
                case measure => simp [intOf]; omega
      · have hi2 : ¬ (i : Int) < (n : Int) := by omega
        have HTK := Lib.hid (show l.take i = l from List.take_of_length_le (by rw [HN.out]; omega))
        have HCE := Lib.hid (cp_end (lpX (G : Int) (N : Int)) (fun (x : Ls) => heL x (N : Int) || kpL (G : Int) x (N : Int)) (l := l) (i := i) (by rw [HN.out]; omega))
        clear hlt HOW
        go_wp2_with fail
        go_ret
        have h1 := HM.out
        have h2 := HO.out
        have h3 := HV.out.done HL.out
        rw [HTK.out] at h1 h2
        rw [HCE.out] at h3
        rw [← HRR.out]
        exact ⟨Ao, co, by dsimp only; rw [h1]; rfl, h2, h3, HV.out.ke⟩
end Go.Proofs.Ytpbobmiajjgekaa
