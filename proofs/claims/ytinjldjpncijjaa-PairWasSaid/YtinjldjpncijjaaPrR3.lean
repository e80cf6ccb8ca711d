/- The document's own table of pairs: Join: its contract. (Begun in round 15, in a seat of the document's own table alone.) -/
import Derived.Test.YtinjldjpncijjaaPrR2
namespace Go.Proofs.Ytinjldjpncijjaa
set_option linter.unusedVariables false
set_option maxRecDepth 100000
set_option linter.unusedSimpArgs false
open Go.RowKit

/-- Is there a greater visitor? -/
def gtP (v : Int) (l : List Pp) : Bool := l.any fun a => decide (v < a.v)
/-- What Join's loop has gathered. -/
def insI (p : Pp) (l : List Pp) : List Pp := if gtP p.v l = true then insP p l else l
theorem ins_app {p : Pp} : ∀ {l m : List Pp}, gtP p.v l = true → insP p (l ++ m) = insP p l ++ m
  | [], _, h => by cases h
  | a :: r, m, h => by
    show insP p (a :: (r ++ m)) = insP p (a :: r) ++ m
    unfold insP
    split
    · rfl
    · rename_i hlt
      have : gtP p.v r = true := by
        unfold gtP at h ⊢
        rw [List.any_cons] at h
        simpa [hlt] using h
      rw [ins_app this]
      rfl
theorem ins_end {p : Pp} : ∀ {l m : List Pp}, gtP p.v l = false → insP p (l ++ m) = l ++ insP p m
  | [], _, _ => rfl
  | a :: r, m, h => by
    unfold gtP at h
    rw [List.any_cons, Bool.or_eq_false_iff] at h
    have h1 : ¬ p.v < a.v := by simpa using h.1
    show insP p (a :: (r ++ m)) = a :: (r ++ insP p m)
    conv => lhs; unfold insP
    rw [if_neg h1, ins_end (l := r) h.2]
theorem gt_take {l : List Pp} {i : Nat} {x : Pp} (h : l[i]? = some x) (v : Int) : gtP v (l.take (i + 1)) = (gtP v (l.take i) || decide (v < x.v)) := by
  unfold gtP
  rw [List.take_add_one, h, List.any_append]
  simp
theorem ins_take {l : List Pp} {i : Nat} {x : Pp} (h : l[i]? = some x) (p : Pp) : insI p (l.take (i + 1)) = if gtP p.v (l.take i) = true then insI p (l.take i) ++ [x] else if p.v < x.v then insI p (l.take i) ++ [p, x] else insI p (l.take i) ++ [x] := by
  unfold insI
  rw [gt_take h]
  have e : l.take (i + 1) = l.take i ++ [x] := by rw [List.take_add_one, h]; rfl
  rw [e]
  cases hg : gtP p.v (l.take i) with
  | true => simp only [Bool.true_or, if_true]; rw [ins_app hg]
  | false =>
    simp only [Bool.false_or, Bool.false_eq_true, if_false]
    by_cases hx : p.v < x.v
    · rw [if_pos (by simpa using hx), if_pos hx, ins_end hg]
      unfold insP
      rw [if_pos hx]
    · rw [if_neg (by simpa using hx), if_neg hx]
section
variable {W u u' : World} {H H' : List Nat} {rb : Nat} {t t' : Tp}
/-- The row of who ever was grew. -/
theorem pr_ev {v w4 : World} (h : Dr W v H rb t) {A : Option Addr} {c : Nat} {E : Option Addr} {d k : Nat} {y1 y2 : Int} (hk : t.ev.length = k) (h1 : Bk v rb 40 #[.slice A t.l.length c, .slice E k d]) (h2 : Ow 43 2 ppc v W.heap.size A c t.l) (h3 : Ow 3 1 piv v W.heap.size E d t.ev)
    (h4 : ∀ g, (Value.slice A t.l.length c).ownBlock = some g → g ∈ H) (h5 : ∀ g, (Value.slice E k d).ownBlock = some g → g ∈ H) {w3 : World} {g4 d4 : Nat} (hb : Below v.heap.size v w3) (hg : w3.grownBy w4 (Value.slice E k d).ownBlock)
    (ho : Ow 3 1 piv w4 W.heap.size (some ⟨g4, 0, none⟩) d4 (t.ev ++ [y1, y2])) (hat : (Value.slice E k d).ownBlock = some g4 ∨ g4 = w3.heap.size) :
    (Bk w4 rb 40 #[.slice A t.l.length c, .slice E k d]) ∧ ∃ H', Dr W (w4.setCell ⟨rb, 1, none⟩ (.slice (some ⟨g4, 0, none⟩) (k + 2) d4)) H' rb ⟨t.l, t.ev ++ [y1, y2]⟩ ∧ Sp v (w4.setCell ⟨rb, 1, none⟩ (.slice (some ⟨g4, 0, none⟩) (k + 2) d4)) H H' := by
  have hK : ∃ K, Ke K v w4 ∧ ∀ y ∈ K, y ∈ H ∧ ∃ cs, Bk v y 3 cs := by
    have hk0 : Ke [] v w3 := Ke.of hb
    cases hown : (Value.slice E k d).ownBlock with
    | none => rw [hown] at hg; exact ⟨[], hk0.trans (Ke.grown0 hg), fun y hy => by cases hy⟩
    | some g0 =>
      rw [hown] at hg
      refine ⟨[g0], hk0.nil.trans (Ke.grown hg), fun y hy => ?_⟩
      rw [List.mem_singleton.1 hy]
      have h6 := h5 g0 hown
      obtain ⟨_, _, cs, hc⟩ := Ow.block h3 k g0 hown
      exact ⟨h6, cs, hc⟩
  obtain ⟨K, k1, k2⟩ := hK
  have hd4 : Bk w4 rb 40 #[.slice A t.l.length c, .slice E k d] := h1.ke k1 fun hx => by
    obtain ⟨_, cs, hc⟩ := k2 rb hx
    exact pr_far h1 hc (by decide) rfl
  have h24 : Ow 43 2 ppc w4 W.heap.size A c t.l := by
    refine ⟨h2.1, ?_⟩
    rcases h2.2 with h0 | ⟨g, cap, cur, hv, hg, hh, r⟩
    · exact .inl h0
    · refine .inr ⟨g, cap, cur, hv, hg, (show Bk v g _ _ from hh).ke k1 (fun hx => ?_), r⟩
      obtain ⟨_, cs, hc⟩ := k2 g hx
      exact pr_far hh hc (by decide) rfl
  have hsz : w4.heap.size ≤ (w4.setCell ⟨rb, 1, none⟩ (.slice (some ⟨g4, 0, none⟩) (k + 2) d4)).heap.size := by simp [World.setCell]
  have hlen : (t.ev ++ [y1, y2]).length = k + 2 := by rw [List.length_append, hk]; rfl
  have hs : Sp v (w4.setCell ⟨rb, 1, none⟩ (.slice (some ⟨g4, 0, none⟩) (k + 2) d4)) H (H ++ [g4]) := by
    refine ⟨(k1.more fun y hy => (k2 y hy).1).set (p := ⟨rb, 1, none⟩) h.rb _, fun y hy => ?_⟩
    rcases List.mem_append.1 hy with e | e
    · exact .inl e
    · rw [List.mem_singleton.1 e]
      rcases hat with e1 | e1
      · exact .inl (h5 g4 e1)
      · right; rw [e1]; exact hb.size
  refine ⟨hd4, H ++ [g4], ⟨⟨A, c, some ⟨g4, 0, none⟩, d4, ?_, h24.farR hd4 (by decide) 1 _, ho.farR hd4 (by decide) 1 _, fun g hg => List.mem_append_left _ (h4 g hg), fun g hg => ?_⟩, List.mem_append_left _ h.rb, h.l.trans (hs.k.below h.l.size h.lo), fun y hy => ?_, fun y hy => ?_⟩, hs⟩
  · rw [hlen]; exact hd4.set 1 _
  · simp [Value.ownBlock] at hg
    rw [← hg]; simp
  · rcases hs.g y hy with e | e
    · exact h.lo y e
    · exact Nat.le_trans h.l.size e
  · rcases List.mem_append.1 hy with e | e
    · exact Nat.lt_of_lt_of_le (h.hi y e) hs.k.size
    · rw [List.mem_singleton.1 e]
      obtain ⟨_, hlt, _, _⟩ := Ow.block ho (k + 2) g4 rfl
      exact Nat.lt_of_lt_of_le hlt hsz
theorem two_pi (w : World) (x y : Int) : Rw 1 piv (w.alloc (.cells #[.int .i64 x, .int .i64 y] 3)) (some ⟨w.heap.size, 0, none⟩) [x, y] := by
  have hb := Bk.new w 3 #[.int .i64 x, .int .i64 y]
  refine .inr ⟨w.heap.size, 0, rfl, hb.lt, fun i hi j hj => ?_⟩
  have hj0 : j = 0 := by omega
  subst hj0
  rw [hb.cell]
  match i, hi with
  | 0, _ => rfl
  | 1, _ => rfl
set_option maxRecDepth 100000 in
set_option maxHeartbeats 8000000 in
theorem pr_join (h : Dr W u H rb t) (hf : t.l.length ≤ 1000000) (hfe : t.ev.length ≤ 1000000) (v c : Int) (er : Int) (t2 : Tp) (hR : joinP t v c = (er, t2)) :
    Calls Try.prog 15 #[.pointer (some ⟨rb, 0, none⟩), .int .i64 v, .int .i64 c] u fun e u' => ∃ H', e = .returned (.int .i64 er) ∧ Dr W u' H' rb t2 ∧ Sp u u' H H' := by
  have HD := Lib.hid h
  have HRR := Lib.hid hR
  by_cases hbad : v < 1 ∨ c < 1 ∨ v = c
  · have HP := Lib.hid (show (1, t) = (er, t2) by rw [← hR]; unfold joinP; rw [if_pos hbad])
    have HQ := Lib.hid (show ∃ H', Ending.returned (.int .i64 1) = Ending.returned (.int .i64 er) ∧ Dr W u H' rb t2 ∧ Sp u u H H' by
      have h1 := congrArg Prod.fst HP.out
      have h2 := congrArg Prod.snd HP.out
      dsimp only at h1 h2
      subst h1; subst h2
      exact ⟨H, rfl, h, Sp.refl _ _⟩)
    clear h hR
    by_cases hv : v < 1
    · clear hbad
      go_enter Try.func15, Try.ntmps15
      go_wp2
      go_ret
      first
        | exact HQ.out
        | (obtain ⟨H9, h1, h2⟩ := HQ.out; exact ⟨h1, H9, h2⟩)
    · by_cases hc : c < 1
      · clear hbad
        go_enter Try.func15, Try.ntmps15
        go_wp2
        go_ret
        first
          | exact HQ.out
          | (obtain ⟨H9, h1, h2⟩ := HQ.out; exact ⟨h1, H9, h2⟩)
      · have hvc : (v == c) = true := by
          rcases hbad with h1 | h1 | h1
          · exact absurd h1 hv
          · exact absurd h1 hc
          · simpa using h1
        clear hbad
        go_enter Try.func15, Try.ntmps15
        go_wp2
        go_ret
        first
          | exact HQ.out
          | (obtain ⟨H9, h1, h2⟩ := HQ.out; exact ⟨h1, H9, h2⟩)
  · have hv : ¬ v < 1 := fun x => hbad (.inl x)
    have hc : ¬ c < 1 := fun x => hbad (.inr (.inl x))
    have hvc : (v == c) = false := by
      cases hq : v == c with
      | false => rfl
      | true => exact absurd (.inr (.inr (by simpa using hq))) hbad
    obtain ⟨r1, hr1⟩ : ∃ r, decide (v ∈ t.ev) = r := ⟨_, rfl⟩
    obtain ⟨r2, hr2⟩ : ∃ r, decide (c ∈ t.ev) = r := ⟨_, rfl⟩
    have HW1 := Lib.hid (pr_was h hfe v r1 hr1)
    have HW2 := Lib.hid (pr_was h hfe c r2 hr2)
    by_cases hever : v ∈ t.ev ∨ c ∈ t.ev
    · have HP := Lib.hid (show (4, t) = (er, t2) by rw [← hR]; unfold joinP; rw [if_neg hbad, if_pos hever])
      have HQ := Lib.hid (show ∃ H', Ending.returned (.int .i64 4) = Ending.returned (.int .i64 er) ∧ Dr W u H' rb t2 ∧ Sp u u H H' by
        have h1 := congrArg Prod.fst HP.out
        have h2 := congrArg Prod.snd HP.out
        dsimp only at h1 h2
        subst h1; subst h2
        exact ⟨H, rfl, h, Sp.refl _ _⟩)
      clear h hR hbad
      cases r1 with
      | true =>
        clear hever hr1 hr2
        go_enter Try.func15, Try.ntmps15
        go_wp2_with (go_at_call 19; (with_reducible refine HW1.out.mono ?_); rintro e u2 ⟨rfl, hu⟩; rw [hu]; clear hu)
        go_ret
        first
          | exact HQ.out
          | (obtain ⟨H9, h1, h2⟩ := HQ.out; exact ⟨h1, H9, h2⟩)
      | false =>
        have hr2t : r2 = true := by
          rcases hever with h1 | h1
          · rw [decide_eq_true h1] at hr1; cases hr1
          · rw [← hr2]; exact decide_eq_true h1
        subst hr2t
        clear hever hr1 hr2
        go_enter Try.func15, Try.ntmps15
        go_wp2_with (first
          | (go_at_call 19; (with_reducible refine HW1.out.mono ?_); rintro e u2 ⟨rfl, hu⟩; rw [hu]; clear hu)
          | (go_at_call 19; (with_reducible refine HW2.out.mono ?_); rintro e u2 ⟨rfl, hu⟩; rw [hu]; clear hu))
        go_ret
        first
          | exact HQ.out
          | (obtain ⟨H9, h1, h2⟩ := HQ.out; exact ⟨h1, H9, h2⟩)
    · have e1 : r1 = false := by rw [← hr1]; exact decide_eq_false (fun x => hever (.inl x))
      have e2 : r2 = false := by rw [← hr2]; exact decide_eq_false (fun x => hever (.inr x))
      subst e1; subst e2
      have HP := Lib.hid (show (0, (⟨insP ⟨v, c⟩ t.l, t.ev ++ [v, c]⟩ : Tp)) = (er, t2) by rw [← hR]; unfold joinP; rw [if_neg hbad, if_neg hever])
      obtain ⟨A, ca, E, d, h1, h2, h3, h4, h5⟩ := h.ex
      obtain ⟨n, hn⟩ : ∃ n, t.l.length = n := ⟨_, rfl⟩
      have HR := Lib.hid (Ow.rw_ (f := ppc) (k := 2) (fun _ => rfl) h2)
      have HN := Lib.hid hn
      rw [hn] at h1 hf
      have HBK := Lib.hid (show ∀ w, Below u.heap.size u w → Bk w rb 40 #[.slice A n ca, .slice E t.ev.length d] from fun w hb => h1.below hb h1.lt)
      have HFE := Lib.hid hfe
      clear h hR hbad hever hr1 hr2 h1 h2 h3 h4 h5 hn hfe
      go_enter Try.func15, Try.ntmps15
      go_upto_region 5 with (first
        | (go_at_call 19; (with_reducible refine HW1.out.mono ?_); rintro e u2 ⟨rfl, hu⟩; rw [hu]; clear hu)
        | (go_at_call 19; (with_reducible refine HW2.out.mono ?_); rintro e u2 ⟨rfl, hu⟩; rw [hu]; clear hu))
      go_wp2
      go_loopw [7, 8, 9] (fun v7 v8 v9 wr => ∃ (i m : Nat) (dn : Bool) (A2 : Option Addr) (c2 : Nat), i ≤ n ∧ v7 = .slice A2 m c2 ∧ v8 = .bool dn ∧ v9 = .int .i64 (i : Int) ∧ Hid (gtP v (t.l.take i) = dn) ∧ Hid (Ow 43 2 ppc wr u.heap.size A2 c2 (insI ⟨v, c⟩ (t.l.take i))) ∧ Hid ((insI ⟨v, c⟩ (t.l.take i)).length = m ∧ m ≤ i + 1) ∧ Hid (Below u.heap.size u wr)) (fun v7 v8 v9 _ => n - (intOf v9).toNat)
      case atStart => exact ⟨0, 0, false, none, 0, by omega, rfl, rfl, rfl, Lib.hid rfl, Lib.hid (Ow.nil _ _), Lib.hid ⟨rfl, by omega⟩, Lib.hid (Below.refl _ _)⟩
      case round =>
        obtain ⟨i, m, dn, A2, c2, hi, rfl, rfl, rfl, HDN, HW, HM, HB⟩ := hrel
        have c0 : wr.cell? ⟨rb, 0, none⟩ = some (.slice A n ca) := (HBK.out wr HB.out).cell 0
        have hmm : m ≤ 1000001 := by have := HM.out.2; omega
        by_cases hi1 : i < n
        · have hi2 : (i : Int) < (n : Int) := by omega
          obtain ⟨b, o, x, rfl, hx, hcc⟩ := rowPP HR.out i (by rw [HN.out]; exact hi1)
          obtain ⟨k0, k1⟩ := hcc wr HB.out
          have HGT := Lib.hid (gt_take hx v)
          have HTK := Lib.hid (ins_take hx ⟨v, c⟩)
          obtain ⟨xv, xc⟩ := x
          dsimp only at k0 k1 HGT HTK
          have HOA := Lib.hid (HW.out.on ((Below.refl wr.heap.size wr).alloc (Nat.le_refl _) (.cells #[.int .i64 xv, .int .i64 xc] 43)))
          have HRX := Lib.hid (Rw.bk (f := ppc) (k := 2) (x := (⟨xv, xc⟩ : Pp)) (Bk.new wr 43 #[.int .i64 xv, .int .i64 xc]))
          have HSA := Lib.hid (show u.heap.size ≤ (wr.alloc (.cells #[.int .i64 xv, .int .i64 xc] 43)).heap.size by have := HB.out.size; rw [World.size_alloc]; omega)
          have HCC := Lib.hid hcc
          dsimp only at HCC
          clear hcc hx
          cases dn with
          | true =>
            have HT2 := Lib.hid (show insI ⟨v, c⟩ (t.l.take (i + 1)) = insI ⟨v, c⟩ (t.l.take i) ++ [⟨xv, xc⟩] by rw [HTK.out, if_pos HDN.out])
            have HG2 := Lib.hid (show gtP v (t.l.take (i + 1)) = true by rw [HGT.out, HDN.out]; rfl)
            go_wp2_with (at_builtin; refine wp_rows_at roPP rfl (.tmp 58) (.tmp 66) rfl m rfl HM.out.1 HOA.out ⟨xv, xc⟩ wr.heap.size 1 rfl HRX.out (by omega) HSA.out (m + 1) rfl ?_; intro g9 c9 w9 ho hg hb hat; have HY := Lib.hid (And.intro ho (HB.out.trans (((Below.refl wr.heap.size wr).alloc (Nat.le_refl _) _ |>.mono HB.out.size).trans hb))); clear ho hg hb hat)
            go_roundw
            case rel => exact ⟨i + 1, m + 1, true, some ⟨g9, 0, none⟩, c9, by omega, rfl, rfl, by go_num, HG2, Lib.hid (by rw [HT2.out]; exact HY.out.1), Lib.hid (by rw [HT2.out, List.length_append, HM.out.1]; exact ⟨rfl, by have := HM.out.2; omega⟩), Lib.hid HY.out.2⟩
            case measure => simp [intOf] <;> omega
          | false =>
            have HMI := Lib.hid (show m ≤ i by
              have h1 := HM.out.1
              unfold insI at h1
              dsimp only at h1
              rw [HDN.out, if_neg (by simp), List.length_take] at h1
              omega)
            by_cases hgx : v < xv
            · have hgx2 : xv > v := hgx
              have hgx3 : decide (v < xv) = true := decide_eq_true hgx
              have HT2 := Lib.hid (show insI ⟨v, c⟩ (t.l.take (i + 1)) = (insI ⟨v, c⟩ (t.l.take i) ++ [⟨v, c⟩]) ++ [⟨xv, xc⟩] by rw [HTK.out, if_neg (by rw [HDN.out]; simp), if_pos hgx, List.append_assoc]; rfl)
              have HG2 := Lib.hid (show gtP v (t.l.take (i + 1)) = true by rw [HGT.out, HDN.out, decide_eq_true hgx]; rfl)
              have HO1 := Lib.hid (HW.out.on ((Below.refl wr.heap.size wr).alloc (Nat.le_refl _) (.cells #[.int .i64 v, .int .i64 c] 43)))
              have HR1 := Lib.hid (Rw.bk (f := ppc) (k := 2) (x := (⟨v, c⟩ : Pp)) (Bk.new wr 43 #[.int .i64 v, .int .i64 c]))
              have HS1 := Lib.hid (show u.heap.size ≤ (wr.alloc (.cells #[.int .i64 v, .int .i64 c] 43)).heap.size by have := HB.out.size; rw [World.size_alloc]; omega)
              clear hgx
              go_upto_region 13 with (at_builtin; refine wp_rows_at roPP rfl (.tmp 52) (.tmp 56) rfl m rfl HM.out.1 HO1.out ⟨v, c⟩ wr.heap.size 1 rfl HR1.out (by omega) HS1.out (m + 1) rfl ?_; intro g8 c8 w8 ho hg hb hat; have HX8 := Lib.hid (And.intro ho (HB.out.trans (((Below.refl wr.heap.size wr).alloc (Nat.le_refl _) _ |>.mono HB.out.size).trans hb))); clear ho hg hb hat)
              clear c0 k0 k1 HO1 HR1 HS1 HOA HRX HSA
              have c0 : w8.cell? ⟨rb, 0, none⟩ = some (.slice (some ⟨b, o, none⟩) n ca) := (HBK.out w8 HX8.out.2).cell 0
              obtain ⟨k0, k1⟩ := HCC.out w8 HX8.out.2
              have HLN8 := Lib.hid (show (insI ⟨v, c⟩ (t.l.take i) ++ [(⟨v, c⟩ : Pp)]).length = m + 1 by rw [List.length_append, HM.out.1]; rfl)
              have HOA := Lib.hid (HX8.out.1.on ((Below.refl w8.heap.size w8).alloc (Nat.le_refl _) (.cells #[.int .i64 xv, .int .i64 xc] 43)))
              have HRX := Lib.hid (Rw.bk (f := ppc) (k := 2) (x := (⟨xv, xc⟩ : Pp)) (Bk.new w8 43 #[.int .i64 xv, .int .i64 xc]))
              have HSA := Lib.hid (show u.heap.size ≤ (w8.alloc (.cells #[.int .i64 xv, .int .i64 xc] 43)).heap.size by have := HX8.out.2.size; rw [World.size_alloc]; omega)
              obtain ⟨m8, hm8⟩ : ∃ m8, m + 1 = m8 := ⟨_, rfl⟩
              rw [hm8] at HLN8
              try rw [hm8]
              have hm9 : m8 ≤ i + 1 := by have := HMI.out; omega
              go_wp2_with (at_builtin; refine wp_rows_at roPP rfl (.tmp 58) (.tmp 66) rfl m8 rfl HLN8.out HOA.out ⟨xv, xc⟩ w8.heap.size 1 rfl HRX.out (by omega) HSA.out (m8 + 1) rfl ?_; intro g9 c9 w9 ho hg hb hat; have HY := Lib.hid (And.intro ho (HX8.out.2.trans (((Below.refl w8.heap.size w8).alloc (Nat.le_refl _) _ |>.mono HX8.out.2.size).trans hb))); clear ho hg hb hat)
              go_roundw
              case rel => exact ⟨i + 1, m8 + 1, true, some ⟨g9, 0, none⟩, c9, by omega, rfl, rfl, by go_num, HG2, Lib.hid (by rw [HT2.out]; exact HY.out.1), Lib.hid (by rw [HT2.out, List.length_append, HLN8.out]; exact ⟨rfl, by omega⟩), Lib.hid HY.out.2⟩
              case measure => simp [intOf] <;> omega
            · have hgx2 : ¬ xv > v := hgx
              have hgx3 : decide (v < xv) = false := decide_eq_false hgx
              have HT2 := Lib.hid (show insI ⟨v, c⟩ (t.l.take (i + 1)) = insI ⟨v, c⟩ (t.l.take i) ++ [⟨xv, xc⟩] by rw [HTK.out, if_neg (by rw [HDN.out]; simp), if_neg hgx])
              have HG2 := Lib.hid (show gtP v (t.l.take (i + 1)) = false by rw [HGT.out, HDN.out, decide_eq_false hgx]; rfl)
              clear hgx
              go_wp2_with (at_builtin; refine wp_rows_at roPP rfl (.tmp 58) (.tmp 66) rfl m rfl HM.out.1 HOA.out ⟨xv, xc⟩ wr.heap.size 1 rfl HRX.out (by omega) HSA.out (m + 1) rfl ?_; intro g9 c9 w9 ho hg hb hat; have HY := Lib.hid (And.intro ho (HB.out.trans (((Below.refl wr.heap.size wr).alloc (Nat.le_refl _) _ |>.mono HB.out.size).trans hb))); clear ho hg hb hat)
              go_roundw
              case rel => exact ⟨i + 1, m + 1, false, some ⟨g9, 0, none⟩, c9, by omega, rfl, rfl, by go_num, HG2, Lib.hid (by rw [HT2.out]; exact HY.out.1), Lib.hid (by rw [HT2.out, List.length_append, HM.out.1]; exact ⟨rfl, by have := HMI.out; omega⟩), Lib.hid HY.out.2⟩
              case measure => simp [intOf] <;> omega
        · have hi2 : ¬ (i : Int) < (n : Int) := by omega
          have f0 := (HBK.out wr HB.out).frozen 0
          have HAL := Lib.hid (show t.l.take i = t.l from List.take_of_length_le (by rw [HN.out]; omega))
          rw [HAL.out] at HDN HW HM
          cases dn with
          | true =>
            have HIE := Lib.hid (show insI ⟨v, c⟩ t.l = insP ⟨v, c⟩ t.l by unfold insI; rw [if_pos HDN.out])
            have HSET := Lib.hid (pr_set HD.out HB.out HM.out.1 HW.out)
            go_upto_region 17 with fail
            obtain ⟨H5, z1, z2⟩ := HSET.out
            obtain ⟨w5, hw5⟩ : ∃ w5, wr.setCell ⟨rb, 0, none⟩ (.slice A2 m c2) = w5 := ⟨_, rfl⟩
            rw [hw5] at z1 z2
            try rw [hw5]
            clear hw5
            rw [HIE.out] at z1
            have HZ := Lib.hid z1
            have HS := Lib.hid z2
            clear z1 z2
            obtain ⟨A5, c5, E5, d5, y1, y2, y3, y4, y5⟩ := HZ.out.ex
            obtain ⟨k, hk⟩ : ∃ k, t.ev.length = k := ⟨_, rfl⟩
            dsimp only at y1 y2 y3 y4 y5
            rw [hk] at y1 y5
            have HK := Lib.hid hk
            have HFE2 := Lib.hid (show k ≤ 1000000 by rw [← hk]; exact HFE.out)
            have HY := Lib.hid (And.intro y1 (And.intro y2 (And.intro y3 (And.intro y4 y5))))
            have c1 : w5.cell? ⟨rb, 1, none⟩ = some (.slice E5 k d5) := y1.cell 1
            have HOE := Lib.hid (y3.on ((Below.refl w5.heap.size w5).alloc (Nat.le_refl _) (.cells #[.int .i64 v, .int .i64 c] 3)))
            have HRE := Lib.hid (two_pi w5 v c)
            have HSE := Lib.hid (show W.heap.size ≤ (w5.alloc (.cells #[.int .i64 v, .int .i64 c] 3)).heap.size by have := HZ.out.l.size; rw [World.size_alloc]; omega)
            have hk2 : k ≤ 1000000 := HFE2.out
            clear y1 y2 y3 y4 y5 hk
            go_wp2_with (at_builtin; refine wp_rowsM_at roPI rfl (.tmp 84) (.tmp 87) rfl k rfl HK.out HOE.out [v, c] 2 w5.heap.size 2 rfl (by omega) rfl HRE.out (by omega) HSE.out (k + 2) rfl ?_; intro g9 d9 w9 ho hg hb hat; have HFIN := Lib.hid (pr_ev HZ.out HK.out HY.out.1 HY.out.2.1 HY.out.2.2.1 HY.out.2.2.2.1 HY.out.2.2.2.2 ((Below.refl w5.heap.size w5).alloc (Nat.le_refl _) _) hg ho hat); have f9 := HFIN.out.1.frozen 1; have c9 : w9.cell? ⟨rb, 1, none⟩ = some (.slice E5 k d5) := HFIN.out.1.cell 1; clear ho hg hb hat)
            go_ret
            obtain ⟨_, H9, z1, z2⟩ := HFIN.out
            have e1 : er = 0 := (congrArg Prod.fst HP.out).symm
            have e2 : t2 = ⟨insP ⟨v, c⟩ t.l, t.ev ++ [v, c]⟩ := (congrArg Prod.snd HP.out).symm
            rw [e1, e2]
            first
              | exact ⟨H9, rfl, z1, HS.out.trans z2⟩
              | exact ⟨rfl, H9, z1, HS.out.trans z2⟩
          | false =>
            have HIE := Lib.hid (show insI ⟨v, c⟩ t.l ++ [⟨v, c⟩] = insP ⟨v, c⟩ t.l by
              have h1 := ins_end (p := ⟨v, c⟩) (m := []) HDN.out
              rw [List.append_nil] at h1
              rw [h1]
              unfold insI
              rw [if_neg (by rw [HDN.out]; simp)]
              rfl)
            have HO1 := Lib.hid (HW.out.on ((Below.refl wr.heap.size wr).alloc (Nat.le_refl _) (.cells #[.int .i64 v, .int .i64 c] 43)))
            have HR1 := Lib.hid (Rw.bk (f := ppc) (k := 2) (x := (⟨v, c⟩ : Pp)) (Bk.new wr 43 #[.int .i64 v, .int .i64 c]))
            have HS1 := Lib.hid (show u.heap.size ≤ (wr.alloc (.cells #[.int .i64 v, .int .i64 c] 43)).heap.size by have := HB.out.size; rw [World.size_alloc]; omega)
            go_upto_region 16 with (at_builtin; refine wp_rows_at roPP rfl (.tmp 70) (.tmp 74) rfl m rfl HM.out.1 HO1.out ⟨v, c⟩ wr.heap.size 1 rfl HR1.out (by omega) HS1.out (m + 1) rfl ?_; intro g8 c8 w8 ho hg hb hat; have HX8 := Lib.hid (And.intro ho (HB.out.trans (((Below.refl wr.heap.size wr).alloc (Nat.le_refl _) _ |>.mono HB.out.size).trans hb))); clear ho hg hb hat)
            clear c0 f0 HO1 HR1 HS1
            have c0 : w8.cell? ⟨rb, 0, none⟩ = some (.slice A n ca) := (HBK.out w8 HX8.out.2).cell 0
            have f0 := (HBK.out w8 HX8.out.2).frozen 0
            have HLN8 := Lib.hid (show (insI ⟨v, c⟩ t.l ++ [(⟨v, c⟩ : Pp)]).length = m + 1 by rw [List.length_append, HM.out.1]; rfl)
            obtain ⟨m8, hm8⟩ : ∃ m8, m + 1 = m8 := ⟨_, rfl⟩
            rw [hm8] at HLN8
            try rw [hm8]
            have HSET := Lib.hid (pr_set HD.out HX8.out.2 HLN8.out HX8.out.1)
            go_upto_region 17 with fail
            obtain ⟨H5, z1, z2⟩ := HSET.out
            obtain ⟨w5, hw5⟩ : ∃ w5, w8.setCell ⟨rb, 0, none⟩ (.slice (some ⟨g8, 0, none⟩) m8 c8) = w5 := ⟨_, rfl⟩
            rw [hw5] at z1 z2
            try rw [hw5]
            clear hw5
            rw [HIE.out] at z1
            have HZ := Lib.hid z1
            have HS := Lib.hid z2
            clear z1 z2
            obtain ⟨A5, c5, E5, d5, y1, y2, y3, y4, y5⟩ := HZ.out.ex
            obtain ⟨k, hk⟩ : ∃ k, t.ev.length = k := ⟨_, rfl⟩
            dsimp only at y1 y2 y3 y4 y5
            rw [hk] at y1 y5
            have HK := Lib.hid hk
            have HFE2 := Lib.hid (show k ≤ 1000000 by rw [← hk]; exact HFE.out)
            have HY := Lib.hid (And.intro y1 (And.intro y2 (And.intro y3 (And.intro y4 y5))))
            have c1 : w5.cell? ⟨rb, 1, none⟩ = some (.slice E5 k d5) := y1.cell 1
            have HOE := Lib.hid (y3.on ((Below.refl w5.heap.size w5).alloc (Nat.le_refl _) (.cells #[.int .i64 v, .int .i64 c] 3)))
            have HRE := Lib.hid (two_pi w5 v c)
            have HSE := Lib.hid (show W.heap.size ≤ (w5.alloc (.cells #[.int .i64 v, .int .i64 c] 3)).heap.size by have := HZ.out.l.size; rw [World.size_alloc]; omega)
            have hk2 : k ≤ 1000000 := HFE2.out
            clear y1 y2 y3 y4 y5 hk
            go_wp2_with (at_builtin; refine wp_rowsM_at roPI rfl (.tmp 84) (.tmp 87) rfl k rfl HK.out HOE.out [v, c] 2 w5.heap.size 2 rfl (by omega) rfl HRE.out (by omega) HSE.out (k + 2) rfl ?_; intro g9 d9 w9 ho hg hb hat; have HFIN := Lib.hid (pr_ev HZ.out HK.out HY.out.1 HY.out.2.1 HY.out.2.2.1 HY.out.2.2.2.1 HY.out.2.2.2.2 ((Below.refl w5.heap.size w5).alloc (Nat.le_refl _) _) hg ho hat); have f9 := HFIN.out.1.frozen 1; have c9 : w9.cell? ⟨rb, 1, none⟩ = some (.slice E5 k d5) := HFIN.out.1.cell 1; clear ho hg hb hat)
            go_ret
            obtain ⟨_, H9, z1, z2⟩ := HFIN.out
            have e1 : er = 0 := (congrArg Prod.fst HP.out).symm
            have e2 : t2 = ⟨insP ⟨v, c⟩ t.l, t.ev ++ [v, c]⟩ := (congrArg Prod.snd HP.out).symm
            rw [e1, e2]
            first
              | exact ⟨H9, rfl, z1, HS.out.trans z2⟩
              | exact ⟨rfl, H9, z1, HS.out.trans z2⟩
end
end Go.Proofs.Ytinjldjpncijjaa
