/- The document's own table of connections: All, Close, Open. (Written by gen_cdr4.py.) -/
import Derived.Test.YtndamiocmdnenaaGreatCdR3
import Derived.Test.YtndamiocmdnenaaGreatHeldL
import Derived.Test.YtndamiocmdnenaaGreatG7
import Derived.BigRegion
import Derived.Deep.RegionLaw
namespace Go.Proofs.YtndamiocmdnenaaGreat
set_option linter.unusedVariables false
set_option maxRecDepth 100000
set_option linter.unusedSimpArgs false
open Go.RowKit

theorem gen_anyC {P : Program} {md : Region.Mode} {ops : Array Oper} {Q : Exit → Act → World → Prop} {S' : World → Prop} {z fuel : Nat} {listed : Array Bool} {a : Act} {w : World} (S : World → Prop) (hS : S w) (h : ∀ u, S u → wpAnyL P md ops Q S' z fuel listed a u) : wpAnyL P md ops Q S' z fuel listed a w := h w hS
theorem gen_qC {Q : Exit → Act → World → Prop} {e : Exit} {a : Act} {w : World} (S : World → Prop) (hS : S w) (h : ∀ u, S u → Q e a u) : Q e a w := h w hS
theorem rm_mid {T R : List Cdr} {d : Cdr} {t : Tc} (hg : Gc t) (e : cdl (T ++ d :: R) = t.l) : cdl (T ++ R) = rmC t.l d.id := by
  have hu := hg.up
  rw [← e, cdl_app, cdl_cons, List.map_append, List.map_cons, List.pairwise_append, List.pairwise_cons] at hu
  obtain ⟨_, ⟨h2, _⟩, h3⟩ := hu
  rw [← e, cdl_app T R, cdl_app T (d :: R), cdl_cons]
  have e1 : rmC (cdl T) d.id = cdl T := rm_none (fn_none.2 (fun p hp he => by
    have := h3 p.1 (List.mem_map.2 ⟨p, hp, rfl⟩) d.id List.mem_cons_self
    omega))
  have e2 : rmC (cdl R) d.id = cdl R := rm_none (fn_none.2 (fun p hp he => by
    have := h2 p.1 (List.mem_map.2 ⟨p, hp, rfl⟩)
    omega))
  unfold rmC at e1 e2 ⊢
  rw [List.filter_append, List.filter_cons, e1, e2]
  simp
theorem nd_less {T R : List Cdr} {d : Cdr} (h : (rbs (T ++ d :: R)).Nodup) : (rbs (T ++ R)).Nodup := by
  rw [rbs_app, rbs_cons] at h
  rw [rbs_app]
  exact h.sublist (List.Sublist.append (List.Sublist.refl _) ((List.sublist_cons_self _ _).trans (List.sublist_cons_self _ _)))
theorem cslice_from (A : Option Addr) (n c lo : Nat) (h : lo ≤ n) (hc : n ≤ c) (u : World) : (Instr.sliceAt 52 (.slice A n c) (some (.int .i64 (lo : Int))) none none).run Tryz.prog u = .ok (.slice (tailK 6 A c lo) (n - lo) (c - lo)) u := by
  have h1 : (lo : Int) ≤ (n : Int) := by omega
  have h2 : (n : Int) ≤ (c : Int) := by omega
  unfold tailK
  go_simp
theorem cslice_to (A : Option Addr) (n c hi : Nat) (h : hi ≤ n) (hc : n ≤ c) (u : World) : (Instr.sliceAt 52 (.slice A n c) none (some (.int .i64 (hi : Int))) none).run Tryz.prog u = .ok (.slice A hi c) u := by
  have h1 : (hi : Int) ≤ (n : Int) := by omega
  have h2 : (hi : Int) ≤ (c : Int) := by omega
  go_simp
section
variable {W u u' : World} {H H' : List Nat} {rb : Nat} {t t' : Tc} {A : Option Addr} {cp : Nat} {L T R : List Cdr} {d d' : Cdr}
/-- The table's row is a new one. -/
theorem Cdx.newrow (h : Cdx W u H rb t A cp L) {w : World} {M : List Cdr} {n2 c9 : Nat} {A9 : Option Addr} (hb : Below u.heap.size u w) (hl : M.length = n2) (ho : Ow 64 6 cdc w u.heap.size A9 c9 M) (hM : ∀ d ∈ M, d ∈ L) (hnd : (rbs M).Nodup) :
    ∃ H', Cdt W (w.setCell ⟨rb, 0, none⟩ (.slice A9 n2 c9)) H' rb ⟨cdl M, t.la⟩ ∧ Sp u (w.setCell ⟨rb, 0, none⟩ (.slice A9 n2 c9)) H H' := by
  have hWs := h.l.size
  have hb9 : ∀ g ∈ rowB A9, u.heap.size ≤ g ∧ g < w.heap.size := fun g hg => by
    obtain ⟨h1, h2, _⟩ := Ow.block ho 0 g (rowB_mem.1 hg)
    exact ⟨h1, h2⟩
  have k1 : Ke [rb] u (w.setCell ⟨rb, 0, none⟩ (.slice A9 n2 c9)) := ((Ke.of hb).nil).set (p := ⟨rb, 0, none⟩) (by simp) _
  have kH : Ke H u (w.setCell ⟨rb, 0, none⟩ (.slice A9 n2 c9)) := k1.more (fun y hy => by rw [List.mem_singleton.1 hy]; exact h.rb)
  have hs : Sp u (w.setCell ⟨rb, 0, none⟩ (.slice A9 n2 c9)) H (H ++ rowB A9) := ⟨kH, fun y hy => by
    rcases List.mem_append.1 hy with e | e
    · exact .inl e
    · exact .inr (hb9 y e).1⟩
  have hbk := h.bk.below hb h.bk.lt
  have hsz : w.heap.size ≤ (w.setCell ⟨rb, 0, none⟩ (.slice A9 n2 c9)).heap.size := by simp [World.setCell]
  have hF : ∀ y ∈ [rb], y ∈ rb :: rowB A := fun y hy => by rw [List.mem_singleton.1 hy]; exact List.mem_cons_self
  have hF' : ∀ y ∈ rb :: rowB A9, y ∈ rb :: rowB A ∨ y ∉ H := fun y hy => by
    rcases List.mem_cons.1 hy with e | e
    · exact .inl (by rw [e]; exact List.mem_cons_self)
    · exact .inr (fun hx => by have h1 := h.hi y hx; have h2 := (hb9 y e).1; omega)
  have hl' : ∀ y ∈ H, y ∈ H ++ rowB A9 := fun y hy => List.mem_append_left _ hy
  refine ⟨H ++ rowB A9, ⟨A9, c9, M, ⟨rfl, ?_, (ho.farR hbk (by decide) 0 _).low hWs, fun g hg => ⟨List.mem_append_right _ hg, fun e => by have h1 := (hb9 g hg).1; have h2 := h.bk.lt; rw [e] at h1; omega⟩, fun d hd => ⟨((h.rg d (hM d hd)).1.inF k1 hF).mono hl' hF', ((h.rg d (hM d hd)).2.inF k1 hF).mono hl' hF'⟩, hnd, hl' _ h.rb, h.l.trans (kH.below h.l.size h.lo), fun y hy => ?_, fun y hy => ?_⟩⟩, hs⟩
  · rw [hl]; exact hbk.set 0 _
  · rcases hs.g y hy with e | e
    · exact h.lo y e
    · exact Nat.le_trans hWs e
  · rcases List.mem_append.1 hy with e | e
    · exact Nat.lt_of_lt_of_le (h.hi y e) kH.size
    · exact Nat.lt_of_lt_of_le (hb9 y e).2 hsz
/-- How many there were is another number. -/
theorem Cdx.last (h : Cdx W u H rb t A cp L) (lb : Nat) : Cdx W (u.setCell ⟨rb, 1, none⟩ (.int .i64 (lb : Int))) H rb ⟨t.l, lb⟩ A cp L ∧ Sp u (u.setCell ⟨rb, 1, none⟩ (.int .i64 (lb : Int))) H H := by
  have k1 : Ke [rb] u (u.setCell ⟨rb, 1, none⟩ (.int .i64 (lb : Int))) := (Ke.refl [rb] u).set (p := ⟨rb, 1, none⟩) (by simp) _
  have kH : Ke H u (u.setCell ⟨rb, 1, none⟩ (.int .i64 (lb : Int))) := k1.more (fun y hy => by rw [List.mem_singleton.1 hy]; exact h.rb)
  have hF : ∀ y ∈ [rb], y ∈ rb :: rowB A := fun y hy => by rw [List.mem_singleton.1 hy]; exact List.mem_cons_self
  exact ⟨⟨h.e, h.bk.set 1 _, h.ow.farR h.bk (by decide) 1 _, h.ob, fun d hd => ⟨(h.rg d hd).1.inF k1 hF, (h.rg d hd).2.inF k1 hF⟩, h.nd, h.rb, h.l.trans (kH.below h.l.size h.lo), h.lo, fun y hy => Nat.lt_of_lt_of_le (h.hi y hy) kH.size⟩, Sp.of kH⟩
/-- One row more, with two new rings. -/
theorem Cdx.put (h : Cdx W u H rb t A cp L) {v3 v4 : World} {x y g c4 n : Nat} {id ad : Int} (hn : L.length = n) (kb : Ke [] u v3) (rx : Rs v3 x 512 [] none 0) (ry : Rs v3 y 1024 [] none 0) (hx : u.heap.size ≤ x) (hy : u.heap.size ≤ y) (hxy : x ≠ y) (hgr : v3.grownBy v4 (Value.slice A n cp).ownBlock)
    (ho : Ow 64 6 cdc v4 W.heap.size (some ⟨g, 0, none⟩) c4 (L ++ [(⟨id, cn0 ad, x, y⟩ : Cdr)])) (hat : (Value.slice A n cp).ownBlock = some g ∨ g = v3.heap.size) :
    Bk v4 rb 54 #[.slice A n cp, .int .i64 (t.la : Int)] ∧ ∃ H', Cdt W (v4.setCell ⟨rb, 0, none⟩ (.slice (some ⟨g, 0, none⟩) (n + 1) c4)) H' rb ⟨t.l ++ [(id, cn0 ad)], t.la⟩ ∧ Sp u (v4.setCell ⟨rb, 0, none⟩ (.slice (some ⟨g, 0, none⟩) (n + 1) c4)) H H' := by
  have hWs := h.l.size
  have hlen : (L ++ [(⟨id, cn0 ad, x, y⟩ : Cdr)]).length = n + 1 := by rw [List.length_append, hn]; rfl
  have hK : ∃ K, Ke K v3 v4 ∧ ∀ z ∈ K, z ∈ rowB A := by
    cases hown : (Value.slice A n cp).ownBlock with
    | none => rw [hown] at hgr; exact ⟨[], Ke.grown0 hgr, fun z hz => by cases hz⟩
    | some g0 =>
      rw [hown] at hgr
      exact ⟨[g0], Ke.grown hgr, fun z hz => by rw [List.mem_singleton.1 hz]; exact rowB_mem.2 hown⟩
  obtain ⟨K, k1, hKA⟩ := hK
  have hgp : g ∈ rowB A ∨ g = v3.heap.size := hat.imp (fun e => rowB_mem.2 e) (fun e => e)
  have kK : Ke K u v4 := (kb.nil).trans k1
  have hd4 : Bk v4 rb 54 #[.slice A n cp, .int .i64 (t.la : Int)] := by
    have := h.bk.ke kK (fun hx => (h.ob rb (hKA rb hx)).2 rfl)
    rw [hn] at this
    exact this
  have k2 : Ke (rb :: K) u (v4.setCell ⟨rb, 0, none⟩ (.slice (some ⟨g, 0, none⟩) (n + 1) c4)) := (kK.more (fun z hz => List.mem_cons_of_mem _ hz)).set (p := ⟨rb, 0, none⟩) List.mem_cons_self _
  have hKF : ∀ z ∈ rb :: K, z ∈ rb :: rowB A := fun z hz => by
    rcases List.mem_cons.1 hz with e | e
    · rw [e]; exact List.mem_cons_self
    · exact List.mem_cons_of_mem _ (hKA z e)
  have hKH : ∀ z ∈ rb :: K, z ∈ H := fun z hz => h.F z (hKF z hz)
  have kH : Ke H u (v4.setCell ⟨rb, 0, none⟩ (.slice (some ⟨g, 0, none⟩) (n + 1) c4)) := k2.more hKH
  have hgn : g ∈ H ∨ u.heap.size ≤ g := hgp.imp (fun e => (h.ob g e).1) (fun e => by rw [e]; exact kb.size)
  have hxl : x < v3.heap.size := rx.bk.lt
  have hyl : y < v3.heap.size := ry.bk.lt
  have hs : Sp u (v4.setCell ⟨rb, 0, none⟩ (.slice (some ⟨g, 0, none⟩) (n + 1) c4)) H (H ++ [x, y, g]) := ⟨kH, fun z hz => by
    rcases List.mem_append.1 hz with e | e
    · exact .inl e
    · simp only [List.mem_cons, List.not_mem_nil, or_false] at e
      rcases e with rfl | rfl | rfl
      · exact .inr hx
      · exact .inr hy
      · exact hgn⟩
  have hl' : ∀ z ∈ H, z ∈ H ++ [x, y, g] := fun z hz => List.mem_append_left _ hz
  have hxH : ∀ z, u.heap.size ≤ z → z ∉ H := fun z hz hh => by have := h.hi z hh; omega
  have hgr2 : rowB (some ⟨g, 0, none⟩) = [g] := rfl
  have hF' : ∀ z ∈ rb :: rowB (some ⟨g, 0, none⟩), z ∈ rb :: rowB A ∨ z ∉ H := fun z hz => by
    rw [hgr2] at hz
    rcases List.mem_cons.1 hz with e | e
    · exact .inl (by rw [e]; exact List.mem_cons_self)
    · rw [List.mem_singleton.1 e]
      rcases hgp with e | e
      · exact .inl (List.mem_cons_of_mem _ e)
      · exact .inr (hxH g (by rw [e]; exact kb.size))
  have hnew : ∀ s m, Rs v3 s m [] none 0 → u.heap.size ≤ s → s ∈ [x, y, g] → Rqd (v4.setCell ⟨rb, 0, none⟩ (.slice (some ⟨g, 0, none⟩) (n + 1) c4)) (H ++ [x, y, g]) (rb :: rowB (some ⟨g, 0, none⟩)) s m [] := fun s m hr hs1 hs2 => by
    have k5 : Ke (rb :: K) v3 (v4.setCell ⟨rb, 0, none⟩ (.slice (some ⟨g, 0, none⟩) (n + 1) c4)) := (k1.more (fun z hz => List.mem_cons_of_mem _ hz)).set (p := ⟨rb, 0, none⟩) List.mem_cons_self _
    refine ⟨⟨none, 0, hr.keB k5 (fun hz => hxH s hs1 (hKH s hz)) (fun a ha => by cases ha), fun a ha => by cases ha⟩, List.mem_append_right _ hs2, fun hz => ?_⟩
    rw [hgr2] at hz
    rcases List.mem_cons.1 hz with e | e
    · exact hxH s hs1 (by rw [e]; exact h.rb)
    · have e := List.mem_singleton.1 e
      have hsl := hr.bk.lt
      rcases hgp with e1 | e1
      · exact hxH s hs1 (by rw [e]; exact (h.ob g e1).1)
      · omega
  refine ⟨hd4, H ++ [x, y, g], ⟨some ⟨g, 0, none⟩, c4, L ++ [(⟨id, cn0 ad, x, y⟩ : Cdr)], ⟨?_, ?_, ho.farR hd4 (by decide) 0 _, fun z hz => ?_, fun e he => ?_, ?_, hl' _ h.rb, h.l.trans (kH.below h.l.size h.lo), fun z hz => ?_, fun z hz => ?_⟩⟩, hs⟩
  · rw [cdl_app, h.e]; rfl
  · rw [hlen]; exact hd4.set 0 _
  · rw [hgr2] at hz
    rw [List.mem_singleton.1 hz]
    exact ⟨by simp, fun e => by
      rcases hgp with e1 | e1
      · exact (h.ob g e1).2 e
      · have := h.bk.lt; have := kb.size; omega⟩
  · rcases List.mem_append.1 he with e1 | e1
    · exact ⟨((h.rg e e1).1.inF k2 hKF).mono hl' hF', ((h.rg e e1).2.inF k2 hKF).mono hl' hF'⟩
    · rw [List.mem_singleton.1 e1]
      exact ⟨hnew x 512 rx hx (by simp), hnew y 1024 ry hy (by simp)⟩
  · rw [rbs_app]
    refine List.nodup_append.2 ⟨h.nd, by simp [rbs, hxy], fun a ha b hb => ?_⟩
    have haH : a ∈ H := by
      obtain ⟨e, he, h1⟩ := List.mem_flatMap.1 ha
      simp only [List.mem_cons, List.not_mem_nil, or_false] at h1
      rcases h1 with rfl | rfl
      · exact (h.rg e he).1.sH
      · exact (h.rg e he).2.sH
    have h1 := h.hi a haH
    simp only [rbs, List.flatMap_cons, List.flatMap_nil, List.append_nil, List.mem_cons, List.not_mem_nil, or_false] at hb
    rcases hb with rfl | rfl <;> omega
  · rcases hs.g z hz with e | e
    · exact h.lo z e
    · exact Nat.le_trans hWs e
  · have hsz : v3.heap.size ≤ (v4.setCell ⟨rb, 0, none⟩ (.slice (some ⟨g, 0, none⟩) (n + 1) c4)).heap.size := Nat.le_trans k1.size (by simp [World.setCell])
    rcases List.mem_append.1 hz with e | e
    · exact Nat.lt_of_lt_of_le (h.hi z e) kH.size
    · simp only [List.mem_cons, List.not_mem_nil, or_false] at e
      rcases e with rfl | rfl | rfl
      · omega
      · omega
      · obtain ⟨_, h2, _⟩ := Ow.block ho 0 z rfl
        have : v4.heap.size ≤ (v4.setCell ⟨rb, 0, none⟩ (.slice (some ⟨z, 0, none⟩) (n + 1) c4)).heap.size := by simp [World.setCell]
        omega
set_option maxRecDepth 100000 in
set_option maxHeartbeats 4000000 in
theorem d_all (h : Cdt W u H rb t) (hg : Gc t) (n : Nat) (hn : (alC t).length = n) :
    Calls Tryz.prog 12 #[.pointer (some ⟨rb, 0, none⟩)] u fun e u' => ∃ A c, e = .returned (.slice A n c) ∧ OI u' u.heap.size A c (alC t) ∧ Below u.heap.size u u' := by
  obtain ⟨A, c, L, h1⟩ := h
  have HR := Lib.hid h1.rw_
  have HC := Lib.hid (fun w (hb : Below u.heap.size u w) => show w.cell? ⟨rb, 0, none⟩ = some (.slice A L.length c) from (h1.bk.below hb h1.bk.lt).cell 0)
  have hal : alC t = L.map (·.id) := by unfold alC; rw [← h1.e]; unfold cdl; rw [List.map_map]; rfl
  obtain ⟨m, hm⟩ : ∃ m, L.length = m := ⟨_, rfl⟩
  have hq : m ≤ 64 := by rw [← hm, h1.len]; exact hg.few
  have hnm : n = m := by rw [← hn, hal, List.length_map, hm]
  subst hnm
  have HM := Lib.hid hm
  have HAL := Lib.hid hal
  simp only [hm] at HC
  have c0 := HC.out u (Below.refl _ _)
  clear h1 hm hal hg hn
  go_enter Tryz.func12, Tryz.ntmps12
  go_wp2
  go_loopw [3, 4] (fun v3 v4 wr => ∃ (i : Nat) (A2 : Option Addr) (c2 : Nat), i ≤ n ∧ v3 = .slice A2 i c2 ∧ v4 = .int .i64 (i : Int) ∧ Hid (((L.map (·.id)).take i).length = i) ∧ Hid (OI wr u.heap.size A2 c2 ((L.map (·.id)).take i)) ∧ Hid (Below u.heap.size u wr)) (fun v3 v4 _ => n - (intOf v4).toNat)
  case atStart => exact ⟨0, none, 0, by omega, rfl, rfl, Lib.hid rfl, Lib.hid (OI.nil _ _), Lib.hid (Below.refl _ _)⟩
  case round =>
    obtain ⟨i, A2, c2, hi, rfl, rfl, HK, HO, HB⟩ := hrel
    have c1 := HC.out wr HB.out
    by_cases hi1 : i < n
    · have hi2 : (i : Int) < (n : Int) := by omega
      obtain ⟨b, o, x, rfl, hx, hc⟩ := row6c HR.out i (by rw [HM.out]; exact hi1)
      have x0 := (hc wr HB.out).1
      have HT := Lib.hid (show (L.map (·.id)).take (i + 1) = (L.map (·.id)).take i ++ [x.id] by rw [List.take_add_one, List.getElem?_map, hx]; rfl)
      clear hx hc
      have HO3 := Lib.hid (show OI (wr.alloc (.cells #[.int .i64 x.id] 3)) u.heap.size A2 c2 ((L.map (·.id)).take i) from HO.out.ke (K := []) ((Ke.refl _ _).alloc _) (by simp))
      have HB3 := Lib.hid (HB.out.alloc HB.out.size (.cells #[.int .i64 x.id] 3))
      have HC3 := Lib.hid (show (wr.alloc (.cells #[.int .i64 x.id] 3)).cell? ⟨wr.heap.size, 0, none⟩ = some (.int .i64 x.id) from (Bk.new wr 3 #[.int .i64 x.id]).cell 0)
      go_wp2_with (at_builtin; refine wp_app_int rfl (.tmp 14) (.tmp 23) rfl u.heap.size ((L.map (·.id)).take i) A2 i c2 rfl HK.out HO3.out x.id wr.heap.size rfl HC3.out (by omega) HB3.out.size (i + 1) rfl ?_; intro A4 c4 w4 ho hb4; have HO4 := Lib.hid ho; have HB4 := Lib.hid (HB3.out.trans hb4); clear ho hb4)
      go_roundw
      case rel => exact ⟨i + 1, A4, c4, by omega, by first | rfl | go_num, by go_num, Lib.hid (by rw [HT.out, List.length_append, HK.out]; rfl), Lib.hid (by rw [HT.out]; exact HO4.out), HB4⟩
      case measure => simp [intOf] <;> omega
    · have hi2 : ¬ (i : Int) < (n : Int) := by omega
      obtain rfl : i = n := by omega
      have HT := Lib.hid (show (L.map (·.id)).take i = alC t by rw [HAL.out]; exact List.take_of_length_le (by rw [List.length_map, HM.out]; exact Nat.le_refl _))
      rw [HT.out] at HO
      go_wp2
      go_ret
      exact ⟨A2, c2, rfl, HO.out, HB.out⟩
set_option maxRecDepth 100000 in
set_option maxHeartbeats 8000000 in
theorem d_close (h : Cdt W u H rb t) (hg : Gc t) (id : Int) (r : Bool) (t2 : Tc) (hE : clC t id = (r, t2)) :
    Calls Tryz.prog 25 #[.pointer (some ⟨rb, 0, none⟩), .int .i64 id] u fun e u' => ∃ H', e = .returned (.bool r) ∧ Cdt W u' H' rb t2 ∧ Sp u u' H H' := by
  have hf : t.l.length ≤ 1000000 := by have := hg.few; omega
  have HF := Lib.hid (d_find h hf id _ rfl)
  unfold clC hsC at hE
  cases hc : t.f id with
  | none =>
    rw [fi_miss hc] at HF
    rw [hc, if_neg (by simp)] at hE
    injection hE with hE1 hE2
    subst hE1
    subst hE2
    have HD := Lib.hid h
    clear hf hc
    go_enter Tryz.func25, Tryz.ntmps25
    go_wp2_with (go_at_call 70; (with_reducible refine (HF.out).mono ?_); rintro e u2 ⟨rfl, hu⟩; rw [hu]; clear hu)
    go_ret
    exact ⟨H, rfl, HD.out, Sp.refl _ _⟩
  | some cc =>
    rw [hc, if_pos (by simp)] at hE
    injection hE with hE1 hE2
    subst hE1
    obtain ⟨i, n, c, b, x, y, hh⟩ := h.hit hc
    rw [hh.fi] at HF
    have hi : i < n := hh.lt
    have hnf : n ≤ 64 := by rw [← hh.ln]; exact hg.few
    have hk3 : ¬ ((i : Int) < 0) := by omega
    obtain ⟨c0, _⟩ := hh.cs u (Ke.refl _ _)
    obtain ⟨T, R, d, hx, hTk, rfl, rfl, rfl, rfl⟩ := hh.sp
    have hn : (T ++ d :: R).length = n := by have h9 := hx.at_.1; rw [c0] at h9; injection h9 with h9; injection h9 with _ h9; exact h9.symm
    obtain ⟨A, hA⟩ : ∃ A : Option Addr, some ⟨b, 0, none⟩ = A := ⟨_, rfl⟩
    rw [hA] at hx c0
    obtain ⟨j, hj⟩ : ∃ j, i + 1 = j := ⟨_, rfl⟩
    have hcap : n ≤ c := by rw [← hn]; exact (Ow.fit hx.ow).cap
    have hRW := hx.rw_
    have hAn : A ≠ none := by rw [← hA]; simp
    have HX := Lib.hid hx
    have HE2 := Lib.hid hE2
    have HRM := Lib.hid (rm_mid hg hx.e)
    have HND := Lib.hid (nd_less hx.nd)
    have HS1 := Lib.hid (fun w => cslice_to A n c i (by omega) hcap w)
    have HS2 := Lib.hid (fun w => cslice_from A n c j (by omega) hcap w)
    have hw : IntKind.i64.wrap ((i : Int) + 1) = (j : Int) := (iwrap _ j (by omega) (by omega)).1
    have hT : (T ++ d :: R).take i = T := by rw [← hTk, List.take_left]
    have hR : (T ++ d :: R).drop j = R := by rw [show T ++ d :: R = (T ++ [d]) ++ R by simp, ← hj, ← hTk, show T.length + 1 = (T ++ [d]).length by simp, List.drop_left]
    have HR1 := Lib.hid (show ∀ w, Below u.heap.size u w → Rw 6 cdc w A T from fun w hb => by have h9 := (hRW.on hb).frontK i; rwa [hT] at h9)
    have HR2 := Lib.hid (show ∀ w, Below u.heap.size u w → Rw 6 cdc w (tailK 6 A c j) R from fun w hb => by have h9 := (hRW.on hb).tailK j (by rw [hn]; exact hcap); rwa [hR] at h9)
    have HL1 := Lib.hid hTk
    have HL2 := Lib.hid (show R.length = n - j by have h9 := hn; rw [List.length_append, List.length_cons] at h9; omega)
    have HN := Lib.hid (And.intro (show A = none → i = 0 ∧ c = 0 from fun e => absurd e hAn) (show tailK 6 A c j = none → n - j = 0 ∧ c - j = 0 from fun e => absurd (tailK_none e) hAn))
    have hbk0 : Bk u rb 54 #[.slice A n c, .int .i64 (t.la : Int)] := by have h9 := hx.bk; rwa [hn] at h9
    have HBK := Lib.hid (fun w (hb : Below u.heap.size u w) => hbk0.below hb hbk0.lt)
    have HE := Lib.hid (show Ow 64 6 cdc ((u.alloc (.cells #[] 64)).drew) u.heap.size (some ⟨u.heap.size, 0, none⟩) 0 [] from World.ownsRow_made (base := u.heap.size) (e := 64) (size := 6) u #[] 0 (Nat.le_refl _) (by unfold maxLen; omega) (by simp))
    have HB1 := Lib.hid (show Below u.heap.size u ((u.alloc (.cells #[] 64)).drew) from ((Below.refl _ _).alloc (Nat.le_refl _) _).drew)
    have c0a : (u.alloc (.cells #[] 64)).cell? ⟨rb, 0, none⟩ = some (.slice A n c) := (HBK.out _ HB1.out).cell 0
    have hs1 := HS1.out
    have hs2 := HS2.out
    generalize tailK 6 A c j = TT at hs2 HR2 HN
    obtain ⟨d1, hd1⟩ : ∃ d1, n - j = d1 := ⟨_, rfl⟩
    obtain ⟨e1, he1⟩ : ∃ e1, c - j = e1 := ⟨_, rfl⟩
    obtain ⟨n2, hn2⟩ : ∃ n2, i + d1 = n2 := ⟨_, rfl⟩
    rw [hd1, he1] at hs2 HN
    rw [hd1] at HL2
    have hij : (i : Int) ≤ (n : Int) := by omega
    have hic : (i : Int) ≤ (c : Int) := by omega
    have hjn : (j : Int) ≤ (n : Int) := by omega
    have hjc : (j : Int) ≤ (c : Int) := by omega
    have hncc : (n : Int) ≤ (c : Int) := by omega
    have hd64 : d1 ≤ 64 := by omega
    have HL3 := Lib.hid (show (T ++ R).length = n2 by rw [List.length_append, HL1.out, HL2.out, hn2])
    clear h hh hx hn hRW hAn hd1 he1 hbk0 hE2 hc hg hf hT hR hA hTk
    go_enter Tryz.func25, Tryz.ntmps25
    go_upto_region 4 with (go_at_call 70; (with_reducible refine (HF.out).mono ?_); rintro e u2 ⟨rfl, hu⟩; rw [hu]; clear hu)
    go_region_law (first
      | (refine step_rows roCD rfl (.tmp 12) (.tmp 18) rfl 0 rfl rfl HE.out T A i c rfl HL1.out HN.out.1 (HR1.out _ HB1.out) (by omega) HB1.out.size i (by omega) ?_; intro A8 c8 w8 HA8; have c8a : w8.cell? ⟨rb, 0, none⟩ = some (.slice A n c) := (HBK.out _ (HB1.out.trans HA8.out.2)).cell 0)
      | (refine step_rows roCD rfl (.tmp 19) (.tmp 26) rfl i rfl HL1.out (by have := HA8.out.1; rwa [List.nil_append] at this) R TT d1 e1 rfl HL2.out HN.out.2 (HR2.out _ (HB1.out.trans HA8.out.2)) (by omega) (HB1.out.trans HA8.out.2).size n2 (by omega) ?_; intro A9 c9 w9 HA9; have hbk9 := HBK.out _ ((HB1.out.trans HA8.out.2).trans HA9.out.2); have c9a : w9.cell? ⟨rb, 0, none⟩ = some (.slice A n c) := hbk9.cell 0; have f9 := hbk9.frozen 0; clear hbk9))
    all_goals
      go_wp2
      go_ret
      have hB9 := (HB1.out.trans HA8.out.2).trans HA9.out.2
      have ho9 := HA9.out.1
      obtain ⟨H', z1, z2⟩ := HX.out.newrow hB9 HL3.out ho9 (fun e he => by
        rcases List.mem_append.1 he with h9 | h9
        · exact List.mem_append_left _ h9
        · exact List.mem_append_right _ (List.mem_cons_of_mem _ h9)) HND.out
      rw [HRM.out, HE2.out] at z1
      first
        | exact ⟨H', rfl, z1, z2⟩
        | exact ⟨rfl, H', z1, z2⟩
set_option maxRecDepth 100000 in
set_option maxHeartbeats 8000000 in
theorem d_open (h : Cdt W u H rb t) (hg : Gc t) (hla : t.la ≤ 1000000) (a : Int) (r er : Int) (t2 : Tc) (hE : opC t a = ((r, er), t2)) :
    Calls Tryz.prog 24 #[.pointer (some ⟨rb, 0, none⟩), .int .u32 a] u fun e u' => ∃ H', e = .returned (.tuple #[.int .i64 r, .int .i64 er]) ∧ Cdt W u' H' rb t2 ∧ Sp u u' H H' := by
  obtain ⟨A, c, L, hx⟩ := h
  obtain ⟨n, hn⟩ : ∃ n, L.length = n := ⟨_, rfl⟩
  have hlt : t.l.length = n := by rw [← hx.len]; exact hn
  have hnf : n ≤ 64 := by rw [← hlt]; exact hg.few
  have hbk0 : Bk u rb 54 #[.slice A n c, .int .i64 (t.la : Int)] := by have h9 := hx.bk; rwa [hn] at h9
  have c0 : u.cell? ⟨rb, 0, none⟩ = some (.slice A n c) := hbk0.cell 0
  have HX := Lib.hid hx
  have HN := Lib.hid hn
  unfold opC at hE
  rw [hlt] at hE
  by_cases h64 : 64 ≤ n
  · rw [if_pos h64] at hE
    injection hE with e1 e2
    injection e1 with e1 e3
    subst e1; subst e2; subst e3
    have hm64 : (n : Int) ≥ 64 := by omega
    have hm64b : (64 : Int) ≤ (n : Int) := by omega
    clear hx hg hn hlt hbk0
    go_enter Tryz.func24, Tryz.ntmps24
    go_wp2_with fail
    go_ret2
    exact ⟨H, rfl, HX.out.cdt, Sp.refl _ _⟩
  · rw [if_neg h64] at hE
    injection hE with e1 e2
    injection e1 with e1 e3
    subst e1; subst e3
    have hm64 : ¬ (n : Int) ≥ 64 := by omega
    have hm64b : ¬ (64 : Int) ≤ (n : Int) := by omega
    obtain ⟨la, hlae⟩ : ∃ la, t.la = la := ⟨_, rfl⟩
    rw [hlae] at hla hbk0 e2 ⊢
    have c1 : u.cell? ⟨rb, 1, none⟩ = some (.int .i64 (la : Int)) := hbk0.cell 1
    have f1 := hbk0.frozen 1
    have hw1 := (iwrap ((la : Int) + 1) (la + 1) (by omega) (by omega)).1
    obtain ⟨lb, hlb⟩ : ∃ lb, la + 1 = lb := ⟨_, rfl⟩
    rw [hlb] at hw1 e2 ⊢
    have HE2 := Lib.hid e2
    obtain ⟨u1, hu1⟩ : ∃ u1, u.setCell ⟨rb, 1, none⟩ (.int .i64 (lb : Int)) = u1 := ⟨_, rfl⟩
    have hl1 := hx.last lb
    rw [hu1] at hl1
    have HX1 := Lib.hid hl1.1
    have HS1 := Lib.hid hl1.2
    have hbk1 : Bk u1 rb 54 #[.slice A n c, .int .i64 (lb : Int)] := by rw [← hu1]; exact hbk0.set 1 _
    have HB1 := Lib.hid hbk1
    clear hx hg hn hlt hbk0 hbk1 hl1 e2 hlae hlb
    go_enter Tryz.func24, Tryz.ntmps24
    go_upto_region 4 with fail
    try rw [hu1]
    clear hu1 c0 c1 f1 hw1
    obtain ⟨wd, hwd⟩ : ∃ wd, u1.drew = wd := ⟨_, rfl⟩
    have hbd : Below u1.heap.size u1 wd := by rw [← hwd]; exact (Below.refl _ _).drew
    have HBD := Lib.hid (show Bk wd rb 54 #[.slice A n c, .int .i64 (lb : Int)] from HB1.out.below hbd HB1.out.lt)
    have HKD := Lib.hid (show Ke [] u1 wd from Ke.of hbd)
    clear hbd
    try simp only [List.cons_append, List.nil_append]
    refine wp_region_L (S := fun wz => wz.cell? ⟨rb, 0, none⟩ = some (.slice A n c) ∧ wz.cell? ⟨rb, 1, none⟩ = some (.int .i64 (lb : Int))) 17 (by kernel_rfl) (by rw [hwd]; exact ⟨HBD.out.cell 0, HBD.out.cell 1⟩) (fun hHeld => ?_)
    rw [hwd] at hHeld ⊢
    clear hwd
    refine takeL (some 20) [17] (i := 0) (v := ?_) rfl rfl (by kernel_rfl) (by kernel_rfl) (by kernel_rfl) (by kernel_rfl) (fun _ _ _ h => h) (Or.inl ⟨by kernel_rfl, ?_⟩) hHeld ?_
    rotate_left
    · intro wz hSw; go_simp; try (with_reducible rfl)
    try simp only [Act.put, List.setIfInBounds_toArray, List.set_cons_zero, List.set_cons_succ, List.getElem_toArray, List.getElem_cons_succ, List.getElem_cons_zero]
    refine takeL (some 21) [17] (i := 1) (v := ?_) rfl rfl (by kernel_rfl) (by kernel_rfl) (by kernel_rfl) (by kernel_rfl) (fun _ _ _ h => h) (Or.inl ⟨by kernel_rfl, ?_⟩) hHeld ?_
    rotate_left
    · intro wz hSw; go_simp; try (with_reducible rfl)
    try simp only [Act.put, List.setIfInBounds_toArray, List.set_cons_zero, List.set_cons_succ, List.getElem_toArray, List.getElem_cons_succ, List.getElem_cons_zero]
    refine takeL (some 22) [17] (i := 2) (v := ?_) rfl rfl (by kernel_rfl) (by kernel_rfl) (by kernel_rfl) (by kernel_rfl) (fun _ _ _ h => h) (Or.inl ⟨by kernel_rfl, ?_⟩) hHeld ?_
    rotate_left
    · intro wz hSw; go_simp; try (with_reducible rfl)
    try simp only [Act.put, List.setIfInBounds_toArray, List.set_cons_zero, List.set_cons_succ, List.getElem_toArray, List.getElem_cons_succ, List.getElem_cons_zero]
    refine takeL (some 23) [17] (i := 3) (v := ?_) rfl rfl (by kernel_rfl) (by kernel_rfl) (by kernel_rfl) (by kernel_rfl) (fun _ _ _ h => h) (Or.inl ⟨by kernel_rfl, ?_⟩) hHeld ?_
    rotate_left
    · intro wz hSw; go_simp; try (with_reducible rfl)
    try simp only [Act.put, List.setIfInBounds_toArray, List.set_cons_zero, List.set_cons_succ, List.getElem_toArray, List.getElem_cons_succ, List.getElem_cons_zero]
    refine takeL (some 24) [17] (i := 4) (v := ?_) rfl rfl (by kernel_rfl) (by kernel_rfl) (by kernel_rfl) (by kernel_rfl) (fun _ _ _ h => h) (Or.inl ⟨by kernel_rfl, ?_⟩) hHeld ?_
    rotate_left
    · intro wz hSw; obtain ⟨q0, q1⟩ := hSw; go_simp; try (with_reducible rfl)
    try simp only [Act.put, List.setIfInBounds_toArray, List.set_cons_zero, List.set_cons_succ, List.getElem_toArray, List.getElem_cons_succ, List.getElem_cons_zero]
    refine takeL (some 25) [17] (i := 5) (v := ?_) rfl rfl (by kernel_rfl) (by kernel_rfl) (by kernel_rfl) (by kernel_rfl) (fun _ _ _ h => h) (Or.inl ⟨by kernel_rfl, ?_⟩) hHeld ?_
    rotate_left
    · intro wz hSw; go_simp; try (with_reducible rfl)
    try simp only [Act.put, List.setIfInBounds_toArray, List.set_cons_zero, List.set_cons_succ, List.getElem_toArray, List.getElem_cons_succ, List.getElem_cons_zero]
    refine takeL (some 26) [17] (i := 6) (v := ?_) rfl rfl (by kernel_rfl) (by kernel_rfl) (by kernel_rfl) (by kernel_rfl) (fun _ _ _ h => h) (Or.inl ⟨by kernel_rfl, ?_⟩) hHeld ?_
    rotate_left
    · intro wz hSw; go_simp; try (with_reducible rfl)
    try simp only [Act.put, List.setIfInBounds_toArray, List.set_cons_zero, List.set_cons_succ, List.getElem_toArray, List.getElem_cons_succ, List.getElem_cons_zero]
    refine takeL (some 27) [17] (i := 7) (v := ?_) rfl rfl (by kernel_rfl) (by kernel_rfl) (by kernel_rfl) (by kernel_rfl) (fun _ _ _ h => h) (Or.inl ⟨by kernel_rfl, ?_⟩) hHeld ?_
    rotate_left
    · intro wz hSw; go_simp; try (with_reducible rfl)
    try simp only [Act.put, List.setIfInBounds_toArray, List.set_cons_zero, List.set_cons_succ, List.getElem_toArray, List.getElem_cons_succ, List.getElem_cons_zero]
    refine takeL (some 28) [17] (i := 8) (v := ?_) rfl rfl (by kernel_rfl) (by kernel_rfl) (by kernel_rfl) (by kernel_rfl) (fun _ _ _ h => h) (Or.inl ⟨by kernel_rfl, ?_⟩) hHeld ?_
    rotate_left
    · intro wz hSw; obtain ⟨q0, q1⟩ := hSw; go_simp; try (with_reducible rfl)
    try simp only [Act.put, List.setIfInBounds_toArray, List.set_cons_zero, List.set_cons_succ, List.getElem_toArray, List.getElem_cons_succ, List.getElem_cons_zero]
    refine takeL (some 29) [17] (i := 9) (v := ?_) rfl rfl (by kernel_rfl) (by kernel_rfl) (by kernel_rfl) (by kernel_rfl) (fun _ _ _ h => h) (Or.inl ⟨by kernel_rfl, ?_⟩) hHeld ?_
    rotate_left
    · intro wz hSw; go_simp; try (with_reducible rfl)
    try simp only [Act.put, List.setIfInBounds_toArray, List.set_cons_zero, List.set_cons_succ, List.getElem_toArray, List.getElem_cons_succ, List.getElem_cons_zero]
    refine wpAnyL_ready (rs := [10]) (by kernel_rfl) (by simp) (AllReadyL.cons rfl (fun K hK => ?_) AllReadyL.nil)
    rw [if_pos (by kernel_rfl)]
    go_simp
    refine (rnew_ok 512 wd).mono ?_
    rintro e w3 ⟨rfl, g1, g2⟩
    try dsimp only
    rw [show mostM 512 = 512 by rfl] at g1
    have HB3 := Lib.hid (HBD.out.ke g2 (by simp))
    have HK3 := Lib.hid (HKD.out.trans g2)
    have hx0 : u1.heap.size ≤ wd.heap.size := HKD.out.size
    obtain ⟨x, hx⟩ : ∃ x, wd.heap.size = x := ⟨_, rfl⟩
    rw [hx] at g1 hx0
    try rw [hx]
    have HR3 := Lib.hid g1
    have HX0 := Lib.hid hx0
    clear g1 g2 hx hx0
    refine hK.out _ _ ⟨HB3.out.cell 0, HB3.out.cell 1⟩ (fun hHeld => ?_)
    try simp only [Act.put, List.setIfInBounds_toArray, List.set_cons_zero, List.set_cons_succ, List.getElem_toArray, List.getElem_cons_succ, List.getElem_cons_zero]
    refine wpAnyL_ready (rs := [11]) (by kernel_rfl) (by simp) (AllReadyL.cons rfl (fun K hK => ?_) AllReadyL.nil)
    rw [if_pos (by kernel_rfl)]
    go_simp
    refine (rnew_ok 1024 w3).mono ?_
    rintro e w4 ⟨rfl, g1, g2⟩
    try dsimp only
    rw [show mostM 1024 = 1024 by rfl] at g1
    have HB4 := Lib.hid (HB3.out.ke g2 (by simp))
    have HK4 := Lib.hid (HK3.out.trans g2)
    have hy0 : u1.heap.size ≤ w3.heap.size := HK3.out.size
    have hxy : x < w3.heap.size := HR3.out.bk.lt
    have HR4 := Lib.hid (HR3.out.keB g2 (by simp) (fun a ha => by cases ha))
    obtain ⟨y, hy⟩ : ∃ y, w3.heap.size = y := ⟨_, rfl⟩
    rw [hy] at g1 hy0 hxy
    try rw [hy]
    have HQ4 := Lib.hid g1
    have HY0 := Lib.hid (And.intro hy0 hxy)
    clear g1 g2 hy hy0 hxy
    refine hK.out _ _ ⟨HB4.out.cell 0, HB4.out.cell 1⟩ (fun hHeld => ?_)
    try simp only [Act.put, List.setIfInBounds_toArray, List.set_cons_zero, List.set_cons_succ, List.getElem_toArray, List.getElem_cons_succ, List.getElem_cons_zero]
    refine takeL (some 32) [17] (i := 12) (v := ?_) rfl rfl (by kernel_rfl) (by kernel_rfl) (by kernel_rfl) (by kernel_rfl) (fun _ _ _ h => h) (Or.inl ⟨by kernel_rfl, ?_⟩) hHeld ?_
    rotate_left
    · intro wz hSw; go_simp; try (with_reducible rfl)
    try simp only [Act.put, List.setIfInBounds_toArray, List.set_cons_zero, List.set_cons_succ, List.getElem_toArray, List.getElem_cons_succ, List.getElem_cons_zero]
    refine wpAnyL_ready (rs := [13]) (by kernel_rfl) (by simp) (AllReadyL.cons rfl (fun K hK => ?_) AllReadyL.nil)
    rw [if_pos (by kernel_rfl)]
    go_simp
    try dsimp only
    obtain ⟨w5, hw5⟩ : ∃ w5, w4.alloc (.cells #[.int .i64 (lb : Int), .int .u32 a, .pointer (some ⟨x, 0, none⟩), .pointer (some ⟨y, 0, none⟩), .int .i64 0, .bool false] 64) = w5 := ⟨_, rfl⟩
    obtain ⟨gw, hgw⟩ : ∃ gw, w4.heap.size = gw := ⟨_, rfl⟩
    have hk5 : Ke [] w4 w5 := by rw [← hw5]; exact (Ke.refl _ _).alloc _
    have hbk5 : Bk w5 gw 64 #[.int .i64 (lb : Int), .int .u32 a, .pointer (some ⟨x, 0, none⟩), .pointer (some ⟨y, 0, none⟩), .int .i64 0, .bool false] := by rw [← hw5, ← hgw]; exact Bk.new _ _ _
    try rw [hw5]
    try rw [hgw]
    clear hw5 hgw
    have HK5 := Lib.hid (HK4.out.trans hk5)
    have HB5 := Lib.hid (HB4.out.ke hk5 (by simp))
    have HR5 := Lib.hid (HR4.out.keB hk5 (by simp) (fun a ha => by cases ha))
    have HQ5 := Lib.hid (HQ4.out.keB hk5 (by simp) (fun a ha => by cases ha))
    have HX5 := Lib.hid (show Cdx W w5 H rb ⟨t.l, lb⟩ A c L from HX1.out.keO (K := []) HK5.out (fun _ _ hx => by cases hx) (HX1.out.l.trans (HK5.out.below HX1.out.l.size (fun x hx => by cases hx))))
    have HRX := Lib.hid (show Rw 6 cdc w5 (some ⟨gw, 0, none⟩) [(⟨(lb : Int), cn0 a, x, y⟩ : Cdr)] from Rw.bk (f := cdc) (k := 6) (x := (⟨(lb : Int), cn0 a, x, y⟩ : Cdr)) hbk5)
    clear hk5 hbk5
    refine hK.out _ _ ⟨HB5.out.cell 0, HB5.out.cell 1⟩ (fun hHeld => ?_)
    try simp only [Act.put, List.setIfInBounds_toArray, List.set_cons_zero, List.set_cons_succ, List.getElem_toArray, List.getElem_cons_succ, List.getElem_cons_zero]
    refine wpAnyL_ready (rs := [14]) (by kernel_rfl) (by simp) (AllReadyL.cons rfl (fun K hK => ?_) AllReadyL.nil)
    rw [if_pos (by kernel_rfl)]
    refine op_rows_at roCD (.tmp 24) (.tmp 33) rfl n rfl HN.out HX5.out.ow (⟨(lb : Int), cn0 a, x, y⟩ : Cdr) gw 1 rfl HRX.out (by omega) HX5.out.l.size (n + 1) rfl ?_
    intro g8 c8 w8 ho hgr hb hat
    have hput := HX1.out.put HN.out HK5.out HR5.out HQ5.out HX0.out HY0.out.1 (by have := HY0.out.2; omega) hgr ho hat
    have HP := Lib.hid hput
    clear hput ho hgr hb hat
    have c8a : w8.cell? ⟨rb, 0, none⟩ = some (.slice A n c) := HP.out.1.cell 0
    have c8b : w8.cell? ⟨rb, 1, none⟩ = some (.int .i64 (lb : Int)) := HP.out.1.cell 1
    have f8 := HP.out.1.frozen 0
    refine hK.out _ _ ⟨c8a, c8b⟩ (fun hHeld => ?_)
    try simp only [Act.put, List.setIfInBounds_toArray, List.set_cons_zero, List.set_cons_succ, List.getElem_toArray, List.getElem_cons_succ, List.getElem_cons_zero]
    refine takeL (some 35) [16, 17] (i := 15) (v := ?_) rfl rfl (by kernel_rfl) (by kernel_rfl) (by kernel_rfl) (by kernel_rfl) (fun _ _ _ h => h) (Or.inl ⟨by kernel_rfl, ?_⟩) hHeld ?_
    rotate_left
    · intro wz hSw; go_simp; try (with_reducible rfl)
    try simp only [Act.put, List.setIfInBounds_toArray, List.set_cons_zero, List.set_cons_succ, List.getElem_toArray, List.getElem_cons_succ, List.getElem_cons_zero]
    refine takeL (some 36) [17] (i := 16) (v := ?_) rfl rfl (by kernel_rfl) (by kernel_rfl) (by kernel_rfl) (by kernel_rfl) (fun _ _ _ h => h) (Or.inl ⟨by kernel_rfl, ?_⟩) hHeld ?_
    rotate_left
    · intro wz hSw; go_simp; try (with_reducible rfl)
    try simp only [Act.put, List.setIfInBounds_toArray, List.set_cons_zero, List.set_cons_succ, List.getElem_toArray, List.getElem_cons_succ, List.getElem_cons_zero]
    refine wpAnyL_ready (rs := [17]) (by kernel_rfl) (by simp) (AllReadyL.last rfl (fun K hK => ?_))
    rw [if_pos (by kernel_rfl)]
    go_simp
    refine hK.out _ _ ?_
    try simp only [Act.put, List.setIfInBounds_toArray, List.set_cons_zero, List.set_cons_succ, List.getElem_toArray, List.getElem_cons_succ, List.getElem_cons_zero]
    refine wpAnyL_done (by kernel_rfl) ?_ _
    have hc1 : (w8.setCell ⟨rb, 0, none⟩ (.slice (some ⟨g8, 0, none⟩) (n + 1) c8)).cell? ⟨rb, 1, none⟩ = some (.int .i64 (lb : Int)) := (HP.out.1.set 0 _).cell 1
    refine gen_qC (fun y => y.cell? ⟨rb, 1, none⟩ = some (.int .i64 (lb : Int)) ∧ ∃ H', Cdt W y H' rb ⟨t.l ++ [((lb : Int), cn0 a)], lb⟩ ∧ Sp u1 y H H') ⟨hc1, HP.out.2⟩ (fun y9 hy9 => ?_)
    have c1 := hy9.1
    have HY := Lib.hid hy9.2
    clear hy9 hc1 c8a c8b f8 hHeld
    go_wp2
    go_ret2
    obtain ⟨H', z1, z2⟩ := HY.out
    rw [HE2.out] at z1
    have z3 := HS1.out.trans z2
    first
      | exact ⟨H', rfl, z1, z3⟩
      | exact ⟨rfl, H', z1, z3⟩
end
end Go.Proofs.YtndamiocmdnenaaGreat
