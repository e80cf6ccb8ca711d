/- ClockOnce: the walk. -/
import Derived.Test.YtdfllobdefodfaaCkHead
import Derived.Test.YtdfllobdefodfaaCkOnceM
namespace Go.Proofs.Ytdfllobdefodfaa
set_option linter.unusedVariables false
set_option linter.unusedSimpArgs false
open Go.RowKit

abbrev bls (gl : List Bool) : Array Value := (gl.map Value.bool).toArray
theorem bls_at {gl : List Bool} {j : Nat} {b : Bool} (h : gl[j]? = some b) : (bls gl)[j]? = some (.bool b) := by simp [bls, h]
theorem bls_set (gl : List Bool) (j : Nat) (b : Bool) : (bls gl).setIfInBounds j (.bool b) = bls (gl.set j b) := by
  apply Array.ext'
  simp [bls, List.map_set]
theorem bool_info : (Try.prog.info? 4).map (fun i => (i.zero, i.size, i.bytes)) = some (some (.bool false), 1, 1) := by kernel_rfl
theorem mk_bools (w : World) (n : Nat) (hn : n ≤ 1048576) :
    (Instr.makeSlice 48 (.int .i64 (n : Int)) (.int .i64 (n : Int))).run Try.prog w = .ok (.slice (some ⟨w.heap.size, 0, none⟩) n n) (w.alloc (.cells (bls (List.replicate n false)) 4)) := by
  obtain ⟨i, hi1, hz, hs, hb⟩ := info_parts bool_info
  have h := run_make (P := Try.prog) w 48 4 i (.bool false) Try.underlying48 hi1 hz .i64 .i64 n n (by omega) (by omega) (by rw [hb]; omega) (by omega)
  rw [h]
  have e1 : madeCells #[Value.bool false] n = bls (List.replicate n false) := by
    apply Array.ext'
    rw [toList_madeCells_one]
    simp [bls]
  simp [hs, Value.cells, e1]

/-- A clock of the law's own, and the row that says which are gone. -/
structure Og (W wr : World) (G : List Nat) (c g : Nat) (w : Int) (S : List Ky) (gl : List Bool) : Prop where
  ck : Cw W wr G c w S
  gone : Bk wr g 4 (bls gl)
  gG : g ∉ G
  gW : W.heap.size ≤ g
theorem Og.step {W u u' : World} {G : List Nat} {c g : Nat} {w w' : Int} {S S' : List Ky} {gl : List Bool} (h : Og W u G c g w S gl) (s : Sp u u' G G) (k : Cw W u' G c w' S') : Og W u' G c g w' S' gl :=
  ⟨k, h.gone.ke s.k h.gG, h.gG, h.gW⟩
theorem Og.mark {W u : World} {G : List Nat} {c g : Nat} {w : Int} {S : List Ky} {gl : List Bool} (h : Og W u G c g w S gl) (j : Nat) :
    Og W (u.setCell ⟨g, j, none⟩ (.bool true)) G c g w S (gl.set j true) ∧ Ke [g] u (u.setCell ⟨g, j, none⟩ (.bool true)) := by
  have k : Ke [g] u (u.setCell ⟨g, j, none⟩ (.bool true)) := (Ke.refl _ _).set (p := ⟨g, j, none⟩) (by simp) _
  have hn : ∀ x ∈ [g], x ∉ G := by simpa using h.gG
  refine ⟨⟨⟨h.ck.ck.ke k hn, h.ck.b.trans (k.below h.ck.b.size (by simpa using h.gW)), h.ck.lo⟩, ?_, h.gG, h.gW⟩, k⟩
  rw [← bls_set]
  exact h.gone.set j _

set_option maxRecDepth 100000 in
set_option maxHeartbeats 8000000 in
theorem walk_ClockOnce (A : Option Addr) (ts : List Int) (n cp : Nat) (A' : Option Addr) (ss : List Int) (m cp' : Nat) (W : World) (w0 : InN .u16 W A ts n cp) (w1 : InN .u8 W A' ss m cp') :
    Calls Try.prog 4 #[.slice A n cp, .slice A' m cp'] W fun e w' => e = .returned (.bool true) ∧ Below W.heap.size W w' := by
  have HH := Lib.hid (chead_ok W)
  have HIN := Lib.hid w0
  have HIS := Lib.hid w1
  have hnm : n ≤ 9223372036854775807 := by have h1 := w0.cap; have h2 := w0.max; unfold maxLen at h2; omega
  have hmm : m ≤ 9223372036854775807 := by have h1 := w1.cap; have h2 := w1.max; unfold maxLen at h2; omega
  have hts : ∀ x ∈ ts, 0 ≤ x ∧ x ≤ 65535 := fun x hx => by
    obtain ⟨M, e, h⟩ := u16_nat (w0.wf x hx)
    omega
  have HTS := Lib.hid hts
  have HTN := Lib.hid w0.len
  clear w0 w1 hts
  go_enter Try.func4, Try.ntmps4
  go_upto_region 2 with (go_at_call 9; refine HH.out.mono ?_; rintro e u1 ⟨rfl, h1⟩)
  have HB1 := Lib.hid ((Below.refl W.heap.size W).trans (h1.below (Nat.le_refl _) (by simp)))
  clear h1
  go_upto_region 3 with (go_at_call 10; refine (w_new HB1.out).mono ?_; rintro e u2 ⟨G0, c, rfl, h1, _, _⟩)
  have R2 := Lib.hid h1
  clear h1
  by_cases hbig : 200 < n
  · have hb2 : (200 : Int) < (n : Int) := by omega
    go_wp2_with fail
    go_ret
    exact ⟨rfl, R2.out.b⟩
  by_cases hbig2 : 200 < m
  · have hb2 : ¬ (200 : Int) < (n : Int) := by omega
    have hb4 : decide ((200 : Int) < (n : Int)) = false := by simp; omega
    have hb3 : (200 : Int) < (m : Int) := by omega
    go_wp2_with fail
    go_ret
    exact ⟨rfl, R2.out.b⟩
  have hb2 : ¬ (200 : Int) < (n : Int) := by omega
  have hb4 : decide ((200 : Int) < (n : Int)) = false := by simp; omega
  have hb3 : ¬ (200 : Int) < (m : Int) := by omega
  have hb5 : n ≤ 200 := by omega
  have hb6 : m ≤ 200 := by omega
  go_wp2_with fail
  go_loopw [7] (fun v7 wr => ∃ i : Nat, i ≤ n ∧ v7 = .int .i64 (i : Int) ∧ Hid (∃ G S, Cw W wr G c 0 S ∧ Of ts i S)) (fun v7 _ => n - (intOf v7).toNat)
  case atStart => exact ⟨0, by omega, rfl, Lib.hid ⟨_, _, R2.out, Of.nil _⟩⟩
  case round =>
    obtain ⟨i, hi, rfl, HR⟩ := hrel
    obtain ⟨G, S, HC, hof⟩ := HR.out
    have HCC := Lib.hid (And.intro HC hof)
    clear HC hof HR
    by_cases hin : i < n
    · have hi2 : (i : Int) < (n : Int) := by omega
      obtain ⟨b, o, x, rfl, hcell, hx, _⟩ := HIN.out.cellAt HCC.out.1.b hin
      have hx01 := HTS.out x (List.mem_of_getElem? hx)
      obtain ⟨hx0, hx1⟩ := hx01
      have HST := Lib.hid (HCC.out.2.step (by omega) hx hx0 hx1)
      have HWI := Lib.hid (wf_nat (k := i) (by omega))
      clear hx
      go_wp2_with (go_at_call 17; refine (w_set HCC.out.1 (i : Int) HWI.out (1 + x) 0 _ HST.out.1 rfl).mono ?_; rintro e u3 ⟨G1, rfl, h1, _⟩; have R3 := Lib.hid h1; clear h1)
      go_roundw
      case rel => exact ⟨i + 1, by omega, by go_num, Lib.hid ⟨_, _, R3.out, HST.out.2⟩⟩
      case measure => simp [intOf]; omega
    · have hi2 : ¬ (i : Int) < (n : Int) := by omega
      have hd : decide ((i : Int) < (n : Int)) = false := by simp; omega
      have HOF := Lib.hid (show Of ts ts.length S from by
        have : i = ts.length := by have := HTN.out; omega
        exact this ▸ HCC.out.2)
      have HMK := mk_bools wr n (by omega)
      obtain ⟨g, hg⟩ : ∃ g, g = wr.heap.size := ⟨_, rfl⟩
      have HOG := Lib.hid (show Og W (wr.alloc (.cells (bls (List.replicate n false)) 4)) G c g 0 (stayM 0 S) (List.replicate n false) ∧ Gn ts 0 [] 0 (List.replicate n false) from
        ⟨⟨by rw [stay_zero HOF.out (fun x hx => (HTS.out x hx).1)]; exact HCC.out.1.ke ((Ke.refl _ _).alloc _), Bk.here hg, fun hx => by have := HCC.out.1.ck.low g hx; omega, by have := HCC.out.1.b.size; omega⟩,
          by rw [← HTN.out]; exact Gn.start (fun x hx => (HTS.out x hx).1)⟩)
      rw [← hg] at HMK
      generalize bls (List.replicate n false) = bl0 at HMK HOG
      generalize List.replicate n false = gl0 at HOG
      clear hg
      go_wp2_with fail
      go_loopw [10, 11] (fun v10 v11 wx => ∃ (i : Nat) (last w : Int), i ≤ m + 1 ∧ v11 = .int .i64 (i : Int) ∧ v10 = .int .i64 last ∧ Hid (0 ≤ w ∧ (i < m + 1 → w ≤ 255 * (i : Int)) ∧ (i = m + 1 → 70000 ≤ w) ∧ 0 ≤ last ∧ last ≤ w ∧ ∃ gl, Og W wx G c g w (stayM w S) gl ∧ Gn ts w [] 0 gl)) (fun _ v11 _ => m + 1 - (intOf v11).toNat)
      case atStart => exact ⟨0, 0, 0, by omega, rfl, rfl, Lib.hid ⟨by omega, fun _ => by omega, fun h => by omega, by omega, by omega, _, HOG.out.1, HOG.out.2⟩⟩
      case round =>
        clear hi2 hd hin HCC HMK HOG
        obtain ⟨i, last, w, hi3, rfl, rfl, HR⟩ := hrel
        obtain ⟨r1, r2, r3, r4, r5, gl, r6, r7⟩ := HR.out
        have HO := Lib.hid (show 0 ≤ w ∧ (i < m + 1 → w ≤ 255 * (i : Int)) ∧ (i = m + 1 → 70000 ≤ w) ∧ 0 ≤ last ∧ last ≤ w ∧ Og W wr G c g w (stayM w S) gl ∧ Gn ts w [] 0 gl from ⟨r1, r2, r3, r4, r5, r6, r7⟩)
        clear r1 r2 r3 r4 r5 r6 r7 HR
        by_cases hil : i < m + 1
        · have hil2 : (i : Int) ≤ (m : Int) := by omega
          by_cases him : i < m
          · skip
            have hs1 : (i : Int) < (m : Int) := by omega
            obtain ⟨b1, o1, stp, rfl, sc, _, hswf⟩ := HIS.out.cellAt HO.out.2.2.2.2.2.1.ck.b him
            obtain ⟨M, rfl, hM⟩ := u8_nat' hswf
            obtain ⟨stp, hstp⟩ : ∃ stp : Int, stp = (M : Int) := ⟨_, rfl⟩
            rw [← hstp] at sc
            have hst0 : 0 ≤ stp := by omega
            have hst1 : stp ≤ 255 := by omega
            have HSTP := Lib.hid hstp
            clear hstp hswf
            obtain ⟨nw, hnw⟩ : ∃ nw, nw = w + stp := ⟨_, rfl⟩
            have HWR := Lib.hid (show 0 ≤ w ∧ w ≤ 51000 ∧ 0 ≤ last ∧ last ≤ w ∧ (i < m + 1 → w ≤ 255 * (i : Int)) from ⟨HO.out.1, by have := HO.out.2.1 (by omega); omega, HO.out.2.2.2.1, HO.out.2.2.2.2.1, HO.out.2.1⟩)
            have hw0 : 0 ≤ w := HWR.out.1
            have hw1 : w ≤ 51000 := HWR.out.2.1
            obtain ⟨L, hL⟩ : ∃ L, goM nw (stayM w S) = L := ⟨_, rfl⟩
            obtain ⟨q, hq⟩ : ∃ q, L.length = q := ⟨_, rfl⟩
            have hq1 : q ≤ 1024 := by rw [← hq, ← hL]; exact Nat.le_trans (go_length_le _ _) HO.out.2.2.2.2.2.1.ck.ck.few
            have HL := Lib.hid (show goM nw (stayM w S) = L ∧ stayM nw (stayM w S) = stayM nw S ∧ L.length = q ∧ w + stp = nw from ⟨hL, stay_two (by omega) S, hq, hnw.symm⟩)
            have HWS := Lib.hid (show Wf stp from wf_int (by omega) (by omega))
            have HK := Lib.hid (show ∀ x ∈ g :: G, x < wr.heap.size from fun x hx => by
              rcases List.mem_cons.1 hx with rfl | hx
              · exact HO.out.2.2.2.2.2.1.gone.lt
              · exact HO.out.2.2.2.2.2.1.ck.ck.low x hx)
            have hqn : w + stp = nw := hnw.symm
            have hqn2 : w + stp = nw := by have := HSTP.out; omega
            have hnw2 : nw ≤ 121000 := by omega
            have hwn : w ≤ nw := by omega
            clear hL hq hnw
            go_upto_region 20 with (go_at_call 21; refine (w_now HO.out.2.2.2.2.2.1.ck).mono ?_; rintro e w3 ⟨rfl, rfl⟩)
            go_upto_region 21 with (go_at_call 14; refine (w_tickK HO.out.2.2.2.2.2.1.ck (g :: G) HK.out stp HWS.out (by omega) (by omega) nw L (stayM nw S) q hqn2 HL.out.1 HL.out.2.1 HL.out.2.2.1).mono ?_; rintro e w4 ⟨A2, p2, rfl, h1, _, hp2, _, h5, h6⟩; have R4 := Lib.hid (And.intro (HO.out.2.2.2.2.2.1.step h6 h5) h1); clear h1 h5 h6)
            go_wp2_with (go_at_call 21; refine (w_now R4.out.1.ck).mono ?_; rintro e w5 ⟨rfl, rfl⟩)
            go_loopw [10, 16] (fun v10 v16 wx => ∃ (k : Nat) (lst : Int), k ≤ q ∧ v16 = .int .i64 (k : Int) ∧ v10 = .int .i64 lst ∧ Hid (Lst ts w nw L k lst ∧ ∃ gl, Og W wx G c g nw (stayM nw S) gl ∧ Gn ts w L k gl ∧ Ri wx (g :: G) A2 L)) (fun _ v16 _ => q - (intOf v16).toNat)
            case atStart => exact ⟨0, last, by omega, rfl, rfl, Lib.hid ⟨⟨HWR.out.2.2.1, .inl HWR.out.2.2.2.1⟩, _, R4.out.1, HO.out.2.2.2.2.2.2.more L, R4.out.2⟩⟩
            case round =>
              obtain ⟨k, lst, hkq, rfl, rfl, HR2⟩ := hrel
              obtain ⟨hlst, gl2, hog, hgn, hri⟩ := HR2.out
              have HI := Lib.hid (show Lst ts w nw L k lst ∧ Og W wr G c g nw (stayM nw S) gl2 ∧ Gn ts w L k gl2 ∧ Ri wr (g :: G) A2 L from ⟨hlst, hog, hgn, hri⟩)
              clear hlst hog hgn hri HR2
              by_cases hkl : k < q
              · have hkl2 : (k : Int) < (q : Int) := by omega
                obtain ⟨j, x, hkth, hprev⟩ := kth HOF.out HL.out.1 (k := k) (by have := HL.out.2.2.1; omega)
                have hjn : j < n := by have := (List.getElem?_eq_some_iff.1 hkth.t).1; have := HTN.out; omega
                obtain ⟨b2, o2, y, rfl, lc, hy⟩ := HI.out.2.2.2.at_ (i := k) (by have := HL.out.2.2.1; omega)
                have hyj : y = (j : Int) := by
                  rw [hkth.at_] at hy
                  injection hy with hy
                  exact hy.symm
                subst hyj
                obtain ⟨b', o', x2, rfl, tc, hx2, _⟩ := HIN.out.cellAt HI.out.2.1.ck.b hjn
                have hxx : x2 = x := by
                  rw [hkth.t] at hx2
                  injection hx2 with hx2
                  exact hx2.symm
                subst hxx
                have hxr := HTS.out x2 (List.mem_of_getElem? hx2)
                obtain ⟨hx0, hx1⟩ := hxr
                have gc : wr.cell? ⟨g, j, none⟩ = some (.bool false) := by
                  have e1 : (decide (1 + x2 ≤ w) || decide ((j : Int) ∈ L.take k)) = false := by
                    have := hkth.lo
                    have h2 : ¬ 1 + x2 ≤ w := by omega
                    simp [h2, hkth.new]
                  have := HI.out.2.2.1.at_ j x2 hkth.t
                  rw [e1] at this
                  rw [HI.out.2.1.gone.cell, bls_at this]
                have gf := HI.out.2.1.gone.frozen j
                have HNX := Lib.hid (show Hid (Lst ts w nw L (k + 1) (1 + x2) ∧ ∃ gl, Og W (wr.setCell ⟨g, j, none⟩ (.bool true)) G c g nw (stayM nw S) gl ∧ Gn ts w L (k + 1) gl ∧ Ri (wr.setCell ⟨g, j, none⟩ (.bool true)) (g :: G) (some ⟨b2, o2, none⟩) L) from
                  Lib.hid ⟨⟨by omega, .inr ⟨k, j, x2, rfl, hkth, rfl⟩⟩, _, (HI.out.2.1.mark j).1, HI.out.2.2.1.step hkth.at_ (by have := HTN.out; omega), HI.out.2.2.2.keep (HI.out.2.1.mark j).2 (by simp)⟩)
                have hlast := HI.out.1.next hkth hprev
                have hlo := hkth.lo
                have hhi := hkth.hi
                have hd1 : decide (1 + x2 ≤ w) = false := by simp; omega
                have hd2 : decide (nw < 1 + x2) = false := by simp; omega
                have hd3 : decide (1 + x2 < lst) = false := by simp; omega
                have hj0 : ¬ (j : Int) < 0 := by omega
                have hjn1 : ¬ (n : Int) ≤ (j : Int) := by omega
                have hjn2 : decide ((n : Int) ≤ (j : Int)) = false := by simp; omega
                have hjn3 : (j : Int) < (n : Int) := by omega
                have hjd : decide ((j : Int) < 0) = false := by simp only [decide_eq_false_iff_not]; omega
                clear hy hx2
                by_cases hk0 : k = 0
                · subst hk0
                  simp only [Nat.add_zero] at lc
                  clear hprev hkth
                  go_wp2_with (go_at_call 21; refine (w_now HI.out.2.1.ck).mono ?_; rintro e w6 ⟨rfl, rfl⟩)
                  all_goals (first | (have hh := ‹some undef = some (Value.bool _)›; injection hh with hh; cases hh; done) | skip)
                  go_roundw
                  case rel => exact ⟨1, 1 + x2, by omega, by first | rfl | go_num, rfl, HNX.out⟩
                  case measure => simp [intOf]; omega
                · obtain ⟨p, hp⟩ : ∃ p, p + 1 = k := ⟨k - 1, by omega⟩
                  obtain ⟨j', x', hk', hord⟩ := hprev p hp
                  have hjn' : j' < n := by have := (List.getElem?_eq_some_iff.1 hk'.t).1; have := HTN.out; omega
                  obtain ⟨b3, o3, y3, e3, lc3, hy3⟩ := HI.out.2.2.2.at_ (i := p) (by have := (List.getElem?_eq_some_iff.1 hk'.at_).1; omega)
                  injection e3 with e3
                  injection e3 with e3 e4
                  subst e3; subst e4
                  have hyj3 : y3 = (j' : Int) := by
                    rw [hk'.at_] at hy3
                    injection hy3 with hy3
                    exact hy3.symm
                  subst hyj3
                  obtain ⟨b4, o4, x4, e5, tc4, hx4, _⟩ := HIN.out.cellAt HI.out.2.1.ck.b hjn'
                  injection e5 with e5
                  injection e5 with e5 e6
                  subst e5; subst e6
                  have hxx4 : x4 = x' := by
                    rw [hk'.t] at hx4
                    injection hx4 with hx4
                    exact hx4.symm
                  subst hxx4
                  have hkp : (k : Int) - 1 = (p : Int) := by omega
                  have hk1 : (0 : Int) < (k : Int) := by omega
                  have hk2 : decide (0 < k) = true := by simp; omega
                  have hx4r := HTS.out x4 (List.mem_of_getElem? hx4)
                  obtain ⟨hx40, hx41⟩ := hx4r
                  have hj'n : (j' : Int) < (n : Int) := by omega
                  have hpq : (p : Int) < (q : Int) := by omega
                  clear hy3 hx4 hk' hprev
                  by_cases hxe : x4 = x2
                  · subst hxe
                    have hjj : j' < j := by omega
                    have hjj1 : ¬ (j : Int) < (j' : Int) := by omega
                    have hjj2 : decide (j < j') = false := by simp; omega
                    clear hord hkth
                    go_wp2_with (go_at_call 21; refine (w_now HI.out.2.1.ck).mono ?_; rintro e w6 ⟨rfl, rfl⟩)
                    all_goals (first | (have hh := ‹some undef = some (Value.bool _)›; injection hh with hh; cases hh; done) | skip)
                    go_roundw
                    case rel => exact ⟨k + 1, 1 + x4, by omega, by go_num, rfl, HNX.out⟩
                    case measure => simp [intOf]; omega
                  · have hxe1 : ¬ x2 = x4 := fun e => hxe e.symm
                    have hxe2 : (x2 == x4) = false := by simp [hxe1]
                    have hxe3 : (1 + x2 == 1 + x4) = false := by simp; omega
                    clear hord hkth
                    go_wp2_with (go_at_call 21; refine (w_now HI.out.2.1.ck).mono ?_; rintro e w6 ⟨rfl, rfl⟩)
                    all_goals (first | (have hh := ‹some undef = some (Value.bool _)›; injection hh with hh; cases hh; done) | skip)
                    go_roundw
                    case rel => exact ⟨k + 1, 1 + x2, by omega, by go_num, rfl, HNX.out⟩
                    case measure => simp [intOf]; omega
              · have hkl2 : ¬ (k : Int) < (q : Int) := by omega
                have hkd : decide ((k : Int) < (q : Int)) = false := by simp; omega
                have hkL : k = L.length := by have := HL.out.2.2.1; omega
                have HLE := Lib.hid (HI.out.1.le hwn)
                have HDN := Lib.hid (show Gn ts nw [] 0 gl2 from HI.out.2.2.1.done' hkL HOF.out HL.out.1 hwn)
                clear hkL
                go_wp2_with fail
                go_roundw
                case rel => exact ⟨i + 1, lst, nw, by omega, by go_num, rfl, Lib.hid ⟨by omega, (fun hh => by have := HWR.out.2.2.2.2 (by omega); have := HSTP.out; omega), (fun hh => by omega), HLE.out.1, HLE.out.2, _, HI.out.2.1, HDN.out⟩⟩
                case measure => simp [intOf]; omega
          · skip
            have him : i = m := by omega
            have hs1 : ¬ (i : Int) < (m : Int) := by omega
            have hs2 : decide ((i : Int) < (m : Int)) = false := by simp; omega
            obtain ⟨stp, hstp⟩ : ∃ stp : Int, stp = 70000 := ⟨_, rfl⟩
            have hst0 : 0 ≤ stp := by omega
            have hst1 : stp ≤ 70000 := by omega
            have HSTP := Lib.hid hstp
            clear hstp
            obtain ⟨nw, hnw⟩ : ∃ nw, nw = w + stp := ⟨_, rfl⟩
            have HWR := Lib.hid (show 0 ≤ w ∧ w ≤ 51000 ∧ 0 ≤ last ∧ last ≤ w ∧ (i < m + 1 → w ≤ 255 * (i : Int)) from ⟨HO.out.1, by have := HO.out.2.1 (by omega); omega, HO.out.2.2.2.1, HO.out.2.2.2.2.1, HO.out.2.1⟩)
            have hw0 : 0 ≤ w := HWR.out.1
            have hw1 : w ≤ 51000 := HWR.out.2.1
            obtain ⟨L, hL⟩ : ∃ L, goM nw (stayM w S) = L := ⟨_, rfl⟩
            obtain ⟨q, hq⟩ : ∃ q, L.length = q := ⟨_, rfl⟩
            have hq1 : q ≤ 1024 := by rw [← hq, ← hL]; exact Nat.le_trans (go_length_le _ _) HO.out.2.2.2.2.2.1.ck.ck.few
            have HL := Lib.hid (show goM nw (stayM w S) = L ∧ stayM nw (stayM w S) = stayM nw S ∧ L.length = q ∧ w + stp = nw from ⟨hL, stay_two (by omega) S, hq, hnw.symm⟩)
            have HWS := Lib.hid (show Wf stp from wf_int (by omega) (by omega))
            have HK := Lib.hid (show ∀ x ∈ g :: G, x < wr.heap.size from fun x hx => by
              rcases List.mem_cons.1 hx with rfl | hx
              · exact HO.out.2.2.2.2.2.1.gone.lt
              · exact HO.out.2.2.2.2.2.1.ck.ck.low x hx)
            have hqn : w + stp = nw := hnw.symm
            have hqn2 : w + 70000 = nw := by have := HSTP.out; omega
            have hnw2 : nw ≤ 121000 := by omega
            have hwn : w ≤ nw := by omega
            clear hL hq hnw
            go_upto_region 20 with (go_at_call 21; refine (w_now HO.out.2.2.2.2.2.1.ck).mono ?_; rintro e w3 ⟨rfl, rfl⟩)
            go_upto_region 21 with (go_at_call 14; refine (w_tickK HO.out.2.2.2.2.2.1.ck (g :: G) HK.out 70000 (by rw [← HSTP.out]; exact HWS.out) (by omega) (by omega) nw L (stayM nw S) q hqn2 HL.out.1 HL.out.2.1 HL.out.2.2.1).mono ?_; rintro e w4 ⟨A2, p2, rfl, h1, _, hp2, _, h5, h6⟩; have R4 := Lib.hid (And.intro (HO.out.2.2.2.2.2.1.step h6 h5) h1); clear h1 h5 h6)
            go_wp2_with (go_at_call 21; refine (w_now R4.out.1.ck).mono ?_; rintro e w5 ⟨rfl, rfl⟩)
            go_loopw [10, 16] (fun v10 v16 wx => ∃ (k : Nat) (lst : Int), k ≤ q ∧ v16 = .int .i64 (k : Int) ∧ v10 = .int .i64 lst ∧ Hid (Lst ts w nw L k lst ∧ ∃ gl, Og W wx G c g nw (stayM nw S) gl ∧ Gn ts w L k gl ∧ Ri wx (g :: G) A2 L)) (fun _ v16 _ => q - (intOf v16).toNat)
            case atStart => exact ⟨0, last, by omega, rfl, rfl, Lib.hid ⟨⟨HWR.out.2.2.1, .inl HWR.out.2.2.2.1⟩, _, R4.out.1, HO.out.2.2.2.2.2.2.more L, R4.out.2⟩⟩
            case round =>
              obtain ⟨k, lst, hkq, rfl, rfl, HR2⟩ := hrel
              obtain ⟨hlst, gl2, hog, hgn, hri⟩ := HR2.out
              have HI := Lib.hid (show Lst ts w nw L k lst ∧ Og W wr G c g nw (stayM nw S) gl2 ∧ Gn ts w L k gl2 ∧ Ri wr (g :: G) A2 L from ⟨hlst, hog, hgn, hri⟩)
              clear hlst hog hgn hri HR2
              by_cases hkl : k < q
              · have hkl2 : (k : Int) < (q : Int) := by omega
                obtain ⟨j, x, hkth, hprev⟩ := kth HOF.out HL.out.1 (k := k) (by have := HL.out.2.2.1; omega)
                have hjn : j < n := by have := (List.getElem?_eq_some_iff.1 hkth.t).1; have := HTN.out; omega
                obtain ⟨b2, o2, y, rfl, lc, hy⟩ := HI.out.2.2.2.at_ (i := k) (by have := HL.out.2.2.1; omega)
                have hyj : y = (j : Int) := by
                  rw [hkth.at_] at hy
                  injection hy with hy
                  exact hy.symm
                subst hyj
                obtain ⟨b', o', x2, rfl, tc, hx2, _⟩ := HIN.out.cellAt HI.out.2.1.ck.b hjn
                have hxx : x2 = x := by
                  rw [hkth.t] at hx2
                  injection hx2 with hx2
                  exact hx2.symm
                subst hxx
                have hxr := HTS.out x2 (List.mem_of_getElem? hx2)
                obtain ⟨hx0, hx1⟩ := hxr
                have gc : wr.cell? ⟨g, j, none⟩ = some (.bool false) := by
                  have e1 : (decide (1 + x2 ≤ w) || decide ((j : Int) ∈ L.take k)) = false := by
                    have := hkth.lo
                    have h2 : ¬ 1 + x2 ≤ w := by omega
                    simp [h2, hkth.new]
                  have := HI.out.2.2.1.at_ j x2 hkth.t
                  rw [e1] at this
                  rw [HI.out.2.1.gone.cell, bls_at this]
                have gf := HI.out.2.1.gone.frozen j
                have HNX := Lib.hid (show Hid (Lst ts w nw L (k + 1) (1 + x2) ∧ ∃ gl, Og W (wr.setCell ⟨g, j, none⟩ (.bool true)) G c g nw (stayM nw S) gl ∧ Gn ts w L (k + 1) gl ∧ Ri (wr.setCell ⟨g, j, none⟩ (.bool true)) (g :: G) (some ⟨b2, o2, none⟩) L) from
                  Lib.hid ⟨⟨by omega, .inr ⟨k, j, x2, rfl, hkth, rfl⟩⟩, _, (HI.out.2.1.mark j).1, HI.out.2.2.1.step hkth.at_ (by have := HTN.out; omega), HI.out.2.2.2.keep (HI.out.2.1.mark j).2 (by simp)⟩)
                have hlast := HI.out.1.next hkth hprev
                have hlo := hkth.lo
                have hhi := hkth.hi
                have hd1 : decide (1 + x2 ≤ w) = false := by simp; omega
                have hd2 : decide (nw < 1 + x2) = false := by simp; omega
                have hd3 : decide (1 + x2 < lst) = false := by simp; omega
                have hj0 : ¬ (j : Int) < 0 := by omega
                have hjn1 : ¬ (n : Int) ≤ (j : Int) := by omega
                have hjn2 : decide ((n : Int) ≤ (j : Int)) = false := by simp; omega
                have hjn3 : (j : Int) < (n : Int) := by omega
                have hjd : decide ((j : Int) < 0) = false := by simp only [decide_eq_false_iff_not]; omega
                clear hy hx2
                by_cases hk0 : k = 0
                · subst hk0
                  simp only [Nat.add_zero] at lc
                  clear hprev hkth
                  go_wp2_with (go_at_call 21; refine (w_now HI.out.2.1.ck).mono ?_; rintro e w6 ⟨rfl, rfl⟩)
                  all_goals (first | (have hh := ‹some undef = some (Value.bool _)›; injection hh with hh; cases hh; done) | skip)
                  go_roundw
                  case rel => exact ⟨1, 1 + x2, by omega, by first | rfl | go_num, rfl, HNX.out⟩
                  case measure => simp [intOf]; omega
                · obtain ⟨p, hp⟩ : ∃ p, p + 1 = k := ⟨k - 1, by omega⟩
                  obtain ⟨j', x', hk', hord⟩ := hprev p hp
                  have hjn' : j' < n := by have := (List.getElem?_eq_some_iff.1 hk'.t).1; have := HTN.out; omega
                  obtain ⟨b3, o3, y3, e3, lc3, hy3⟩ := HI.out.2.2.2.at_ (i := p) (by have := (List.getElem?_eq_some_iff.1 hk'.at_).1; omega)
                  injection e3 with e3
                  injection e3 with e3 e4
                  subst e3; subst e4
                  have hyj3 : y3 = (j' : Int) := by
                    rw [hk'.at_] at hy3
                    injection hy3 with hy3
                    exact hy3.symm
                  subst hyj3
                  obtain ⟨b4, o4, x4, e5, tc4, hx4, _⟩ := HIN.out.cellAt HI.out.2.1.ck.b hjn'
                  injection e5 with e5
                  injection e5 with e5 e6
                  subst e5; subst e6
                  have hxx4 : x4 = x' := by
                    rw [hk'.t] at hx4
                    injection hx4 with hx4
                    exact hx4.symm
                  subst hxx4
                  have hkp : (k : Int) - 1 = (p : Int) := by omega
                  have hk1 : (0 : Int) < (k : Int) := by omega
                  have hk2 : decide (0 < k) = true := by simp; omega
                  have hx4r := HTS.out x4 (List.mem_of_getElem? hx4)
                  obtain ⟨hx40, hx41⟩ := hx4r
                  have hj'n : (j' : Int) < (n : Int) := by omega
                  have hpq : (p : Int) < (q : Int) := by omega
                  clear hy3 hx4 hk' hprev
                  by_cases hxe : x4 = x2
                  · subst hxe
                    have hjj : j' < j := by omega
                    have hjj1 : ¬ (j : Int) < (j' : Int) := by omega
                    have hjj2 : decide (j < j') = false := by simp; omega
                    clear hord hkth
                    go_wp2_with (go_at_call 21; refine (w_now HI.out.2.1.ck).mono ?_; rintro e w6 ⟨rfl, rfl⟩)
                    all_goals (first | (have hh := ‹some undef = some (Value.bool _)›; injection hh with hh; cases hh; done) | skip)
                    go_roundw
                    case rel => exact ⟨k + 1, 1 + x4, by omega, by go_num, rfl, HNX.out⟩
                    case measure => simp [intOf]; omega
                  · have hxe1 : ¬ x2 = x4 := fun e => hxe e.symm
                    have hxe2 : (x2 == x4) = false := by simp [hxe1]
                    have hxe3 : (1 + x2 == 1 + x4) = false := by simp; omega
                    clear hord hkth
                    go_wp2_with (go_at_call 21; refine (w_now HI.out.2.1.ck).mono ?_; rintro e w6 ⟨rfl, rfl⟩)
                    all_goals (first | (have hh := ‹some undef = some (Value.bool _)›; injection hh with hh; cases hh; done) | skip)
                    go_roundw
                    case rel => exact ⟨k + 1, 1 + x2, by omega, by go_num, rfl, HNX.out⟩
                    case measure => simp [intOf]; omega
              · have hkl2 : ¬ (k : Int) < (q : Int) := by omega
                have hkd : decide ((k : Int) < (q : Int)) = false := by simp; omega
                have hkL : k = L.length := by have := HL.out.2.2.1; omega
                have HLE := Lib.hid (HI.out.1.le hwn)
                have HDN := Lib.hid (show Gn ts nw [] 0 gl2 from HI.out.2.2.1.done' hkL HOF.out HL.out.1 hwn)
                clear hkL
                go_wp2_with fail
                go_roundw
                case rel => exact ⟨i + 1, lst, nw, by omega, by go_num, rfl, Lib.hid ⟨by omega, (fun hh => by omega), (fun hh => by have := HSTP.out; omega), HLE.out.1, HLE.out.2, _, HI.out.2.1, HDN.out⟩⟩
                case measure => simp [intOf]; omega
        · have hil2 : ¬ (i : Int) ≤ (m : Int) := by omega
          have hild : decide ((i : Int) ≤ (m : Int)) = false := by simp; omega
          have HW7 := Lib.hid (HO.out.2.2.1 (by omega))
          have HSE := Lib.hid (stay_end HOF.out (w := w) (by have := HW7.out; omega) (fun x hx => (HTS.out x hx).2))
          have HC := Lib.hid (show Cw W wr G c w [] from by have := HO.out.2.2.2.2.2.1.ck; rw [HSE.out] at this; exact this)
          go_wp2_with fail
          go_loopw [19] (fun v19 wr4 => ∃ j : Nat, j ≤ n ∧ v19 = .int .i64 (j : Int) ∧ wr4 = wr) (fun v19 _ => n - (intOf v19).toNat)
          case atStart => exact ⟨0, by omega, rfl, rfl⟩
          case round =>
            obtain ⟨j, hj, rfl, rfl⟩ := hrel
            by_cases hjn : j < n
            · have hjn2 : (j : Int) < (n : Int) := by omega
              have gc : wr.cell? ⟨g, j, none⟩ = some (.bool true) := by
                have hjt : j < ts.length := by have := HTN.out; omega
                have hx := List.getElem?_eq_getElem hjt
                have hr := HTS.out _ (List.mem_of_getElem? hx)
                have e1 : (decide (1 + ts[j] ≤ w) || decide ((j : Int) ∈ ([] : List Int).take 0)) = true := by
                  have := HW7.out
                  have h2 : 1 + ts[j] ≤ w := by omega
                  simp [h2]
                have := HO.out.2.2.2.2.2.2.at_ j _ hx
                rw [e1] at this
                rw [HO.out.2.2.2.2.2.1.gone.cell, bls_at this]
              go_wp2_with fail
              go_roundw
              case rel => exact ⟨j + 1, by omega, by go_num, by trivial⟩
              case measure => simp [intOf]; omega
            · have hjn2 : ¬ (j : Int) < (n : Int) := by omega
              have hjd : decide ((j : Int) < (n : Int)) = false := by simp; omega
              go_wp2_with (go_at_call 22; refine (w_many HC.out 0 rfl).mono ?_; rintro e w9 ⟨rfl, rfl⟩)
              go_ret
              exact ⟨rfl, HC.out.b⟩
end Go.Proofs.Ytdfllobdefodfaa
