/- frame.Cut: its contract. -/
import Derived.Test.YtcmcmbgdakcmmaaFr5a
namespace Go.Proofs.Ytcmcmbgdakcmmaa
set_option linter.unusedVariables false
set_option linter.unusedSimpArgs false
open Go.RowKit Go.Shelf
attribute [local go_sem] Oper.semAt_some

set_option maxRecDepth 100000 in
set_option maxHeartbeats 4000000 in
theorem cut_ok (A : Option Addr) (n c : Nat) (l : List UInt8) (w : World) (hl : l.length = n) (hc : n ≤ c) (hmax : c ≤ 9223372036854775807) (hn : n ≤ 549755813888) (hR : Rb w w.heap.size A l) :
    Calls Try.prog 12 #[.slice A n c] w fun e w' => ∃ A2 c2, e = .returned (.tuple #[.slice A2 (cutF l).length c2, .int .i64 (doneF l : Nat), .int .i64 (errF (restF l) : Nat)]) ∧ OL w' w.heap.size 0 A2 c2 (cutF l) ∧ Below w.heap.size w w' := by
  obtain ⟨C, hC⟩ : ∃ C, cutF l = C := ⟨_, rfl⟩
  obtain ⟨D0, hD⟩ : ∃ D0, doneF l = D0 := ⟨_, rfl⟩
  obtain ⟨E, hE⟩ : ∃ E, errF (restF l) = E := ⟨_, rfl⟩
  rw [hC, hD, hE]
  have HX := Lib.hid (And.intro hC (And.intro hD hE))
  clear hC hD hE
  refine (callsIn_wide (n := 6)).1 ?_
  refine callsIn_of_wp_marks Try.func12 rfl trivial ?_ rfl
  simp only [Try.ntmps12, List.size_toArray, List.length_cons, List.length_nil, Nat.reduceAdd, Nat.reduceSub, Array.replicate_succ, Array.replicate_zero, List.push_toArray, List.append_toArray, List.nil_append, List.cons_append]
  gi_wp2_with (refine ⟨trivial, ?_⟩; gi_at_call 20; refine (callsIn_wide.2 (frames_ok _ _ _ _)).mono ?_; rintro e w' ⟨rfl, rfl⟩)
  obtain ⟨Wa, hWa⟩ : ∃ Wa, w.alloc (.cells #[.slice none 0 0] 27) = Wa := ⟨_, rfl⟩
  obtain ⟨Wb, hWb⟩ : ∃ Wb, Wa.alloc (.cells #[.int .i64 0] 3) = Wb := ⟨_, rfl⟩
  obtain ⟨Wc, hWc⟩ : ∃ Wc, Wb.alloc (.cells #[.int .i64 0] 24) = Wc := ⟨_, rfl⟩
  obtain ⟨Wd, hWd⟩ : ∃ Wd, Wc.alloc (.cells #[.slice none 0 0] 27) = Wd := ⟨_, rfl⟩
  obtain ⟨We, hWe⟩ : ∃ We, Wd.alloc (.cells #[.int .i64 0] 3) = We := ⟨_, rfl⟩
  obtain ⟨W0, hW0⟩ : ∃ W0, We.alloc (.cells #[.slice A n c] 22) = W0 := ⟨_, rfl⟩
  rw [hWa, hWb, hWc, hWd, hWe, hW0]
  have za : Wa.heap.size = w.heap.size + 1 := by rw [← hWa, World.size_alloc]
  have zb : Wb.heap.size = w.heap.size + 1 + 1 := by rw [← hWb, World.size_alloc, za]
  have zc : Wc.heap.size = w.heap.size + 1 + 1 + 1 := by rw [← hWc, World.size_alloc, zb]
  have zd : Wd.heap.size = w.heap.size + 1 + 1 + 1 + 1 := by rw [← hWd, World.size_alloc, zc]
  have ze : We.heap.size = w.heap.size + 1 + 1 + 1 + 1 + 1 := by rw [← hWe, World.size_alloc, zd]
  have hz : W0.heap.size = w.heap.size + 6 := by rw [← hW0, World.size_alloc, ze]
  have hB0 : Below w.heap.size w W0 := by
    rw [← hW0, ← hWe, ← hWd, ← hWc, ← hWb, ← hWa]; go_grown
  have k0 : Boxed W0 w.heap.size 27 (.slice none 0 0) := by
    have : Boxed Wa w.heap.size 27 (.slice none 0 0) := by rw [← hWa]; exact Boxed.new _ _ _
    rw [← hW0, ← hWe, ← hWd, ← hWc, ← hWb]; exact ((((this.alloc _).alloc _).alloc _).alloc _).alloc _
  have k1 : Boxed W0 (w.heap.size + 1) 3 (.int .i64 0) := by
    have : Boxed Wb (w.heap.size + 1) 3 (.int .i64 0) := by rw [← hWb, ← za]; exact Boxed.new _ _ _
    rw [← hW0, ← hWe, ← hWd, ← hWc]; exact (((this.alloc _).alloc _).alloc _).alloc _
  have k2 : Boxed W0 (w.heap.size + 1 + 1) 24 (.int .i64 0) := by
    have : Boxed Wc (w.heap.size + 1 + 1) 24 (.int .i64 0) := by rw [← hWc, ← zb]; exact Boxed.new _ _ _
    rw [← hW0, ← hWe, ← hWd]; exact ((this.alloc _).alloc _).alloc _
  have k3 : Boxed W0 (w.heap.size + 1 + 1 + 1) 27 (.slice none 0 0) := by
    have : Boxed Wd (w.heap.size + 1 + 1 + 1) 27 (.slice none 0 0) := by rw [← hWd, ← zc]; exact Boxed.new _ _ _
    rw [← hW0, ← hWe]; exact (this.alloc _).alloc _
  have k4 : Boxed W0 (w.heap.size + 1 + 1 + 1 + 1) 3 (.int .i64 0) := by
    have : Boxed We (w.heap.size + 1 + 1 + 1 + 1) 3 (.int .i64 0) := by rw [← hWe, ← zd]; exact Boxed.new _ _ _
    rw [← hW0]; exact this.alloc _
  have k5 : Bk W0 (w.heap.size + 1 + 1 + 1 + 1 + 1) 22 #[.slice A n c] := by rw [← hW0]; exact Bk.here ze.symm
  clear hW0 hWa hWb hWc hWd hWe za zb zc zd ze
  have hcnt : (cutF l).length ≤ n := by rw [← hl]; exact cut_count l
  refine rangeFunc_reads rfl (by omega) (gf := 22) (lb := #[.pointer (some ⟨w.heap.size + 1 + 1 + 1 + 1 + 1, 0, none⟩)]) rfl trivial (enters_of Try.func22 (by kernel_rfl) rfl)
    (frames1_reads 5 (by omega) w.heap.size _ 0 A n c l W0 k5 (by omega) hl hc hmax (hR.below hB0 (Nat.le_refl _))) (fun h k => h.trans k) (belowK_b (by omega)) (Below.refl _ _) (fun _ => rfl)
    (CutI w) (CutX w) (cutI_own w _ (by omega)) (cutX_own w _ (by omega)) (told_own _ _)
    ⟨k0, k1, k2, ⟨none, 0, k3, OL.nil _ _ _⟩, k4, (fun x hx => by cases hx), Nat.le_of_eq hz.symm, hB0⟩
    (fun x => { tmps := #[.slice A n c, undef, .pointer (some ⟨w.heap.size, 0, none⟩), .pointer (some ⟨w.heap.size + 1, 0, none⟩), .pointer (some ⟨w.heap.size + 1 + 1, 0, none⟩), .pointer (some ⟨w.heap.size + 1 + 1 + 1, 0, none⟩), .pointer (some ⟨w.heap.size + 1 + 1 + 1 + 1, 0, none⟩), .slice x.A x.l.length x.c, .int .i64 (x.e : Int), .slice A n c, .func (.func 22) #[] #[.pointer (some ⟨w.heap.size + 1 + 1 + 1 + 1 + 1, 0, none⟩)], .slice x.A x.l.length x.c, .int .i64 (x.e : Int), undef, undef, undef, undef, undef, undef, undef, undef, undef, undef, undef, undef, undef, undef, undef, undef], defers := [] }) ?assign ?body ?done ?stop
  case assign =>
    intro lp x W K hK
    gi_wp2
    exact hK
  case body =>
    rintro lp pre x W hI hRx hlen
    obtain ⟨A2, c2, ha, ho⟩ := hI.all_
    obtain ⟨xA, xc, xl, xe, xs⟩ := x
    have hpl : pre.length ≤ n := by omega
    have hsm : sumF (pre.map (·.l)) ≤ 202 * pre.length := by
      have := sum_le (pre.map (·.l)) (fun y hy => by obtain ⟨z, _, rfl⟩ := List.mem_map.1 hy; exact z.small)
      rwa [List.length_map] at this
    obtain ⟨M, hM⟩ : ∃ M, M = sumF (pre.map (·.l)) := ⟨_, rfl⟩
    obtain ⟨p, hp⟩ : ∃ p, p = pre.length := ⟨_, rfl⟩
    have hmany := hI.many
    rw [← hM] at hsm hmany
    rw [← hp] at hsm ha hpl
    have HOK := Lib.hid hI.ok
    have HO := Lib.hid ho
    have HM := Lib.hid hM
    have HP := Lib.hid hp
    have HI := Lib.hid hI
    have ca := ha.cell
    have cm := hmany.cell
    by_cases he : xe = 0
    · subst he
      have HEL := Lib.hid (show El W 0 xA xc xl from hRx)
      obtain ⟨k, hk⟩ : ∃ k, k = xl.length := ⟨_, rfl⟩
      have HK := Lib.hid hk
      have hMk : ∀ xs', (⟨xA, xc, xl, 0, xs'⟩ : Fr).l = xl := fun _ => rfl
      have HFIN := Lib.hid (fun (A3 : Option Addr) (c3 : Nat) (w1 : World) (ho3 : OL w1 w.heap.size 0 A3 c3 (pre.map (·.l) ++ [xl])) (hg3 : (W.alloc (.cells #[.slice xA k xc] 22)).grownBy w1 (Value.slice A2 p c2).ownBlock) (hb3 : Below w.heap.size W w1) =>
        (show KeepsOthers W ((w1.setCell ⟨w.heap.size + 1 + 1 + 1, 0, none⟩ (.slice A3 (p + 1) c3)).setCell ⟨w.heap.size + 1 + 1 + 1 + 1, 0, none⟩ (.int .i64 ((M : Int) + (2 + (k : Int))))) ∧ Below w.heap.size W ((w1.setCell ⟨w.heap.size + 1 + 1 + 1, 0, none⟩ (.slice A3 (p + 1) c3)).setCell ⟨w.heap.size + 1 + 1 + 1 + 1, 0, none⟩ (.int .i64 ((M : Int) + (2 + (k : Int))))) ∧ CutI w (pre ++ [(⟨xA, xc, xl, 0, xs⟩ : Fr)]) ((w1.setCell ⟨w.heap.size + 1 + 1 + 1, 0, none⟩ (.slice A3 (p + 1) c3)).setCell ⟨w.heap.size + 1 + 1 + 1 + 1, 0, none⟩ (.int .i64 ((M : Int) + (2 + (k : Int))))) from by
        have hba := (Below.refl W.heap.size W).alloc (Nat.le_refl _) (.cells #[.slice xA k xc] 22)
        have hoa := ho.below hba
        have go := fun {b0 : Nat} {t : TypeId} {v : Value} (hv : Boxed W b0 t v) (ht : t ≠ 22) => (hv.alloc (.cells #[.slice xA k xc] 22)).kept hg3 (OL.not_box (n := p) hoa (hv.alloc _) ht)
        have r0 := go hI.r0 (by decide)
        have r1 := go hI.r1 (by decide)
        have r2 := go hI.r2 (by decide)
        have r3 := go ha (by decide)
        have r4 := go hmany (by decide)
        have o1 := ho3.store r3 (by decide) (fun z => by simp) (.slice A3 (p + 1) c3)
        have o2 := o1.store (r4.other (B' := w.heap.size + 1 + 1 + 1) (by omega) (.slice A3 (p + 1) c3)) (by decide) (fun z => by simp) (.int .i64 ((M : Int) + (2 + (k : Int))))
        have hbw : Below w.heap.size W ((w1.setCell ⟨w.heap.size + 1 + 1 + 1, 0, none⟩ (.slice A3 (p + 1) c3)).setCell ⟨w.heap.size + 1 + 1 + 1 + 1, 0, none⟩ (.int .i64 ((M : Int) + (2 + (k : Int))))) := (hb3.setCell (p := ⟨w.heap.size + 1 + 1 + 1, 0, none⟩) (by show w.heap.size ≤ w.heap.size + 1 + 1 + 1; omega) _).setCell (p := ⟨w.heap.size + 1 + 1 + 1 + 1, 0, none⟩) (by show w.heap.size ≤ w.heap.size + 1 + 1 + 1 + 1; omega) _
        refine ⟨((KeepsOthers.alloc W _).trans (hoa.keeps hg3)).trans ((KeepsOthers.setCell _ _ _).trans (KeepsOthers.setCell _ _ _)), hbw, ⟨(r0.other (by omega) _).other (by omega) _, (r1.other (by omega) _).other (by omega) _, (r2.other (by omega) _).other (by omega) _, ⟨A3, c3, ?_, ?_⟩, ?_, ?_, ?_, hI.b.trans hbw⟩⟩
        · have e : (pre ++ [(⟨xA, xc, xl, 0, xs⟩ : Fr)]).length = p + 1 := by rw [hp]; simp
          rw [e]
          exact (r3.set _).other (by omega) _
        · rw [List.map_append]; exact o2
        · have e : ((sumF ((pre ++ [(⟨xA, xc, xl, 0, xs⟩ : Fr)]).map (·.l)) : Nat) : Int) = (M : Int) + (2 + (k : Int)) := by
            rw [List.map_append]
            show ((sumF (pre.map (·.l) ++ [xl]) : Nat) : Int) = _
            rw [sum_snoc, hM, hk]
            omega
          rw [e]
          exact (r4.other (by omega) _).set _
        · intro y hy
          rcases List.mem_append.1 hy with h | h
          · exact hI.ok y h
          · rw [List.mem_singleton.1 h]
        · have h1 := hI.size
          have h2 := hb3.size
          rw [World.size_setCell, World.size_setCell]; omega))
      have HGO := Lib.hid (fun (w1 : World) (hg3 : (W.alloc (.cells #[.slice xA k xc] 22)).grownBy w1 (Value.slice A2 p c2).ownBlock) => by
        have hba := (Below.refl W.heap.size W).alloc (Nat.le_refl _) (.cells #[.slice xA k xc] 22)
        have hoa := ho.below hba
        exact And.intro ((ha.alloc (.cells #[.slice xA k xc] 22)).kept hg3 (OL.not_box (n := p) hoa (ha.alloc _) (by decide))) ((hmany.alloc (.cells #[.slice xA k xc] 22)).kept hg3 (OL.not_box (n := p) hoa (hmany.alloc _) (by decide))))
      have HSZ := Lib.hid (show w.heap.size ≤ W.heap.size from hI.b.size)
      have HPM := Lib.hid (show (pre.map (·.l)).length = p by rw [List.length_map, hp])
      have xs2 : k ≤ 200 := by omega
      have HB1 := Lib.hid (show (pre.map (·.l)).length + 1 ≤ 1099511627776 by rw [HPM.out]; omega)
      have b1 : (M : Int) ≤ 120000000000000 := by omega
      clear hI hM hp ho ha hmany hRx hlen hk hMk hsm
      gi_wp2_with ((with_reducible refine wpListIn_here ?_); rw [← HK.out]; refine wpListIn_appl1 rfl (.tmp 18) (.tmp 20) rfl w.heap.size 0 (Nat.zero_le _) (pre.map (·.l)) A2 p c2 rfl HPM.out HO.out xl xA k xc rfl HK.out.symm HEL.out HB1.out HSZ.out ?_; intro A3 c3 w1 ho3 hg3 hb3; have hv := HGO.out w1 hg3; have q1 := hv.1.cell; have q2 := hv.1.frozen; have q3 := hv.2.cell; have q4 := hv.2.frozen; have HF1 := Lib.hid (HFIN.out A3 c3 w1 ho3 hg3 hb3); clear ho3 hg3 hb3 hv)
      exact HF1.out
    · have hne : ((xe : Int) == 0) = false := by rw [beq_eq_false_iff_ne]; omega
      have f0 := hI.r0.frozen
      have f1 := hI.r1.frozen
      have f2 := hI.r2.frozen
      have c0 := hI.r0.cell
      have c1 := hI.r1.cell
      have c2' := hI.r2.cell
      have HA := Lib.hid ha
      have HMY := Lib.hid hmany
      have HNE := Lib.hid he
      have HFIN := Lib.hid (show KeepsOthers W (((W.setCell ⟨w.heap.size, 0, none⟩ (.slice A2 p c2)).setCell ⟨w.heap.size + 1, 0, none⟩ (.int .i64 (M : Int))).setCell ⟨w.heap.size + 1 + 1, 0, none⟩ (.int .i64 (xe : Int))).drew ∧ CutX w (pre ++ [(⟨xA, xc, xl, xe, xs⟩ : Fr)]) (((W.setCell ⟨w.heap.size, 0, none⟩ (.slice A2 p c2)).setCell ⟨w.heap.size + 1, 0, none⟩ (.int .i64 (M : Int))).setCell ⟨w.heap.size + 1 + 1, 0, none⟩ (.int .i64 (xe : Int))).drew from by
        have b0 := hI.r0.set (.slice A2 p c2)
        have b1 := (hI.r1.other (B' := w.heap.size) (by omega) (.slice A2 p c2)).set (.int .i64 (M : Int))
        have b2 := ((hI.r2.other (B' := w.heap.size) (by omega) (.slice A2 p c2)).other (B' := w.heap.size + 1) (by omega) (.int .i64 (M : Int))).set (.int .i64 (xe : Int))
        have o1 := (ho.store hI.r0 (by decide) (fun z => by simp) (.slice A2 p c2)).store (hI.r1.other (B' := w.heap.size) (by omega) (.slice A2 p c2)) (by decide) (fun z => by simp) (.int .i64 (M : Int))
        have o2 := o1.store ((hI.r2.other (B' := w.heap.size) (by omega) (.slice A2 p c2)).other (B' := w.heap.size + 1) (by omega) (.int .i64 (M : Int))) (by decide) (fun z => by simp) (.int .i64 (xe : Int))
        refine ⟨(((KeepsOthers.setCell _ _ _).trans (KeepsOthers.setCell _ _ _)).trans (KeepsOthers.setCell _ _ _)).trans (KeepsOthers.drew _), ⟨⟨pre, _, A2, c2, rfl, he, hI.ok, ?_, OL.drew o2, ?_, ?_⟩, ?_⟩⟩
        · rw [← hp]; exact (b0.other (by omega) _).other (by omega) _
        · rw [← hM]; exact b1.other (by omega) _
        · exact b2
        · exact (((hI.b.setCell (p := ⟨w.heap.size, 0, none⟩) (Nat.le_refl _) _).setCell (p := ⟨w.heap.size + 1, 0, none⟩) (by show w.heap.size ≤ w.heap.size + 1; omega) _).setCell (p := ⟨w.heap.size + 1 + 1, 0, none⟩) (by show w.heap.size ≤ w.heap.size + 1 + 1; omega) _).drew)
      have mixed : Try.prog.follows .mixedOrders = true := by kernel_rfl
      clear hI hM hp ho ha hmany hRx hlen he
      gi_wp2
      gi_region_o
      all_goals gi_wp2
      all_goals exact HFIN.out
  case done =>
    rintro D xs W hD hS hI hK
    obtain ⟨A2, c2, ha, ho⟩ := hI.all_
    rcases hS with ⟨hmap, _, hbg⟩ | ⟨x, hx, hxe⟩
    rotate_left
    · exact absurd (hI.ok x hx) hxe
    obtain ⟨M, hM⟩ : ∃ M, M = sumF (xs.map (·.l)) := ⟨_, rfl⟩
    obtain ⟨p, hp⟩ : ∃ p, p = xs.length := ⟨_, rfl⟩
    have hmany := hI.many
    rw [← hM] at hmany
    rw [← hp] at ha
    have HEQ := Lib.hid (show C.length = p ∧ D0 = M ∧ E = 0 from by
      obtain ⟨x1, x2, x3⟩ := HX.out
      refine ⟨by rw [← x1, ← hmap, List.length_map, hp], ?_, ?_⟩
      · rw [← x2, ← cut_done l, ← hmap, hM]
      · rw [← x3]; exact err_ok _ hbg)
    rw [hmap, HX.out.1] at ho
    have ca := ha.cell
    have cm := hmany.cell
    have f0 := hI.r0.frozen
    have f1 := hI.r1.frozen
    have f2 := hI.r2.frozen
    have c0 := hI.r0.cell
    have c1 := hI.r1.cell
    have c2' := hI.r2.cell
    have HFIN := Lib.hid (show ∀ U, U = (((W.setCell ⟨w.heap.size, 0, none⟩ (.slice A2 p c2)).setCell ⟨w.heap.size + 1, 0, none⟩ (.int .i64 (M : Int))).setCell ⟨w.heap.size + 1 + 1, 0, none⟩ (.int .i64 0)).drew → Boxed U w.heap.size 27 (.slice A2 p c2) ∧ Boxed U (w.heap.size + 1) 3 (.int .i64 (M : Int)) ∧ Boxed U (w.heap.size + 1 + 1) 24 (.int .i64 0) ∧ OL U w.heap.size 0 A2 c2 C ∧ Below w.heap.size w U ∧ U.heap[D]? = some (.deferred (some [])) from by
      rintro U rfl
      have b0 := hI.r0.set (.slice A2 p c2)
      have b1 := (hI.r1.other (B' := w.heap.size) (by omega) (.slice A2 p c2)).set (.int .i64 (M : Int))
      have b2 := ((hI.r2.other (B' := w.heap.size) (by omega) (.slice A2 p c2)).other (B' := w.heap.size + 1) (by omega) (.int .i64 (M : Int))).set (.int .i64 0)
      have o1 := (ho.store hI.r0 (by decide) (fun z => by simp) (.slice A2 p c2)).store (hI.r1.other (B' := w.heap.size) (by omega) (.slice A2 p c2)) (by decide) (fun z => by simp) (.int .i64 (M : Int))
      have o2 := o1.store ((hI.r2.other (B' := w.heap.size) (by omega) (.slice A2 p c2)).other (B' := w.heap.size + 1) (by omega) (.int .i64 (M : Int))) (by decide) (fun z => by simp) (.int .i64 0)
      refine ⟨(b0.other (by omega) _).other (by omega) _, b1.other (by omega) _, b2, OL.drew o2, ?_, ?_⟩
      · exact (((hI.b.setCell (p := ⟨w.heap.size, 0, none⟩) (Nat.le_refl _) _).setCell (p := ⟨w.heap.size + 1, 0, none⟩) (by show w.heap.size ≤ w.heap.size + 1; omega) _).setCell (p := ⟨w.heap.size + 1 + 1, 0, none⟩) (by show w.heap.size ≤ w.heap.size + 1 + 1; omega) _).drew
      · exact (((KeepsOthers.setCell W ⟨w.heap.size, 0, none⟩ (.slice A2 p c2)).trans (KeepsOthers.setCell _ ⟨w.heap.size + 1, 0, none⟩ (.int .i64 (M : Int)))).trans (KeepsOthers.setCell _ ⟨w.heap.size + 1 + 1, 0, none⟩ (.int .i64 0))).same D _ hK rfl)
    have HD := Lib.hid (show w.heap.size + 6 ≤ D by omega)
    have mixed : Try.prog.follows .mixedOrders = true := by kernel_rfl
    clear hI hM hp ho ha hmany hK hmap hbg hD
    gi_wp2
    gi_region_o
    all_goals gi_wp2
    all_goals
      obtain ⟨q1, q2, q3, q4, q5, q6⟩ := HFIN.out _ rfl
      have hD := HD.out
      refine ⟨by simp, .inl ⟨_, _, rfl, run_takeDeferred q6, ?_⟩⟩
      have p1 := (q1.kept (grownBy_putObj' _ D (.deferred none)) (fun e => by cases e; omega)).cell
      have p2 := (q2.kept (grownBy_putObj' _ D (.deferred none)) (fun e => by cases e; omega)).cell
      have p3 := (q3.kept (grownBy_putObj' _ D (.deferred none)) (fun e => by cases e; omega)).cell
      have p4 := OL.own _ _ w.heap.size _ _ _ () _ _ (some D) q4 (grownBy_putObj' _ D (.deferred none)) (fun r e => by cases e; exact ⟨by omega, _, q6, rfl⟩)
      have p5 := q5.trans (belowK_b (w := w) (Nat.le_refl _) _ D _ (.deferred none) (by omega) q6 rfl rfl)
      refine ⟨.tuple #[.slice A2 p c2, .int .i64 (M : Int), .int .i64 0], ?_, A2, c2, ?_, p4, p5⟩
      · simp [results, Try.f12, go_sem, p1, p2, p3]
      · obtain ⟨y1, y2, y3⟩ := HEQ.out
        rw [y1, y2, y3]; rfl
  case stop =>
    rintro D pre W hD hSp hIx hK
    obtain ⟨ys, x, A2, c2, e, hx, hy, b0, ho, b1, b2⟩ := hIx.at_
    have hB := hIx.b
    rcases hSp with h | ⟨ys', x', e', hmap, hy', hx', hbg⟩
    · exact absurd (h x (by rw [e]; exact List.mem_append.2 (.inr (List.mem_singleton.2 rfl)))) hx
    rw [e] at e'
    obtain ⟨e1, e2⟩ := List.append_inj' e' rfl
    injection e2 with e2
    subst e1; subst e2
    rw [hx'] at b2
    obtain ⟨M, hM⟩ : ∃ M, M = sumF (ys.map (·.l)) := ⟨_, rfl⟩
    obtain ⟨p, hp⟩ : ∃ p, p = ys.length := ⟨_, rfl⟩
    rw [← hM] at b1
    rw [← hp] at b0
    have HEQ := Lib.hid (show C.length = p ∧ D0 = M ∧ E = 61 from by
      obtain ⟨x1, x2, x3⟩ := HX.out
      refine ⟨by rw [← x1, ← hmap, List.length_map, hp], ?_, ?_⟩
      · rw [← x2, ← cut_done l, ← hmap, hM]
      · rw [← x3]; exact err_bad _ hbg)
    rw [hmap, HX.out.1] at ho
    have HFIN := Lib.hid (And.intro b0 (And.intro b1 (And.intro b2 (And.intro ho (And.intro hB hK)))))
    clear b0 b1 b2 ho hB hK hmap hbg hM hp hIx
    gi_wp2
    obtain ⟨q1, q2, q3, q4, q5, q6⟩ := HFIN.out
    have hD2 : w.heap.size + 6 ≤ D := by omega
    refine ⟨by simp, .inl ⟨_, _, rfl, run_takeDeferred q6, ?_⟩⟩
    have p1 := (q1.kept (grownBy_putObj' _ D (.deferred none)) (fun e => by cases e; omega)).cell
    have p2 := (q2.kept (grownBy_putObj' _ D (.deferred none)) (fun e => by cases e; omega)).cell
    have p3 := (q3.kept (grownBy_putObj' _ D (.deferred none)) (fun e => by cases e; omega)).cell
    have p4 := OL.own _ _ w.heap.size _ _ _ () _ _ (some D) q4 (grownBy_putObj' _ D (.deferred none)) (fun r e => by cases e; exact ⟨by omega, _, q6, rfl⟩)
    have p5 := q5.trans (belowK_b (w := w) (Nat.le_refl _) _ D _ (.deferred none) (by omega) q6 rfl rfl)
    refine ⟨.tuple #[.slice A2 p c2, .int .i64 (M : Int), .int .i64 61], ?_, A2, c2, ?_, p4, p5⟩
    · simp [results, Try.f12, go_sem, p1, p2, p3]
    · obtain ⟨y1, y2, y3⟩ := HEQ.out
      rw [y1, y2, y3]; rfl
end Go.Proofs.Ytcmcmbgdakcmmaa
