/- ClockPlays: the walk. (Written by gen_ckplays.py.) -/
import Derived.Test.YtdfllobdefodfaaCkHead
import Derived.Test.YtdfllobdefodfaaCkOps
import Derived.Test.YtdfllobdefodfaaCkR3
import Derived.Test.YtdfllobdefodfaaCkR4
import Derived.BigQuiet
namespace Go.Proofs.Ytdfllobdefodfaa
set_option linter.unusedVariables false
set_option linter.unusedSimpArgs false
open Go.RowKit

/-- The program's clock and the document's, of one time and of the same alarms. -/
structure Pl (W u : World) (G : List Nat) (c s : Nat) (now : Int) (S : List Ky) : Prop where
  cw : Cw W u G c now S
  rk : Rk u G s now S
  sW : W.heap.size ≤ s
theorem Pl.ke {W u u' : World} {G : List Nat} {c s : Nat} {now : Int} {S : List Ky} (h : Pl W u G c s now S) (k : Ke [] u u') : Pl W u' G c s now S := ⟨h.cw.ke k, h.rk.ke k, h.sW⟩
/-- Behind a call of the program's clock, and behind one of the document's. -/
theorem Pl.two {W u v w : World} {G G' : List Nat} {c s : Nat} {now now' : Int} {S S' : List Ky} (h : Pl W u G c s now S) (k : Cw W v G' c now' S') (p : Sp u v G G') (r : Rk v G' s now S → Rk w G' s now' S') (q : Ke [s] v w) : Pl W w G' c s now' S' := by
  have hr := h.rk.step p k.ck.low
  refine ⟨⟨k.ck.ke q (by simpa using hr.sK), k.b.trans (q.below k.b.size (by simpa using h.sW)), k.lo⟩, r hr, h.sW⟩
theorem Pl.mid {W u v : World} {G G' : List Nat} {c s : Nat} {now now' : Int} {S S' : List Ky} (h : Pl W u G c s now S) (k : Cw W v G' c now' S') (p : Sp u v G G') : Rk v G' s now S := h.rk.step p k.ck.low

theorem r_tick {u : World} {K : List Nat} {s : Nat} {now : Int} {S : List Ky} (h : Rk u K s now S) (n : Int) (hn : Wf n) (h0 : 0 ≤ n) (h1 : n ≤ 1099511627776 - now) (nw : Int) (L : List Int) (m : Nat) (hnw : now + n = nw) (hL : goM nw S = L) (hm : L.length = m) :
    Calls Try.prog 15 #[.pointer (some ⟨s, 0, none⟩), .int .i64 n] u fun e u' => ∃ A cp, e = .returned (.tuple #[.slice A m cp, .int .i64 0]) ∧ Ri u' [] A L ∧ Rk u' K s nw (stayM nw S) ∧ Ke [s] u u' := by
  subst hnw; subst hL; subst hm
  exact (rtick_ok u h n hn).mono fun e u' hp => by
    obtain ⟨A, cp, k1, k2, k3⟩ := hp.fine (by omega)
    exact ⟨A, cp, k1, k2.ri (by simp), k3, hp.k⟩
theorem r_tick_bad {u : World} {K : List Nat} {s : Nat} {now : Int} {S : List Ky} (h : Rk u K s now S) (n : Int) (hn : Wf n) (h0 : n < 0 ∨ 1099511627776 - now < n) :
    Calls Try.prog 15 #[.pointer (some ⟨s, 0, none⟩), .int .i64 n] u fun e u' => e = .returned (.tuple #[.slice none 0 0, .int .i64 1]) ∧ Rk u' K s now S ∧ Ke [s] u u' :=
  (rtick_ok u h n hn).mono fun e u' hp => by
    obtain ⟨k1, k2⟩ := hp.bad h0
    exact ⟨k1, k2, hp.k⟩

set_option maxRecDepth 100000 in
set_option maxHeartbeats 8000000 in
theorem walk_ClockPlays (A : Option Addr) (l : List CoM) (n cp : Nat) (W : World) (w0 : InC W A l n cp) :
    Calls Try.prog 3 #[.slice A n cp] W fun e w' => e = .returned (.bool true) ∧ Below W.heap.size W w' := by
  have HH := Lib.hid (chead_ok W)
  have HIN := Lib.hid w0
  have hnm : n ≤ 9223372036854775807 := by have h1 := w0.cap; have h2 := w0.max; unfold maxLen at h2; omega
  clear w0
  go_enter Try.func3, Try.ntmps3
  go_upto_region 2 with (go_at_call 9; refine HH.out.mono ?_; rintro e u1 ⟨rfl, h1⟩)
  have HB1 := Lib.hid ((Below.refl W.heap.size W).trans (h1.below (Nat.le_refl _) (by simp)))
  clear h1
  go_upto_region 3 with (go_at_call 10; refine (w_new HB1.out).mono ?_; rintro e u2 ⟨G0, c, rfl, h1, _, _⟩)
  have R2 := Lib.hid h1
  clear h1
  go_upto_region 4 with (go_at_call 11; refine (rnew_ok _ G0 R2.out.ck.low).mono ?_; rintro e u3 ⟨s, rfl, h1, h2, h3⟩)
  have R3 := Lib.hid (show Pl W u3 G0 c s 0 [] from ⟨R2.out.ke h2, h1, Nat.le_trans R2.out.b.size h3⟩)
  clear h1 h2 h3
  by_cases hbig : 300 < n
  · have hb2 : (300 : Int) < (n : Int) := by omega
    go_wp2_with fail
    go_ret
    exact ⟨rfl, R3.out.cw.b⟩
  · have hb2 : ¬ (300 : Int) < (n : Int) := by omega
    have hb3 : n ≤ 300 := by omega
    go_wp2_with fail
    go_loopw [6] (fun v6 wx => ∃ i : Nat, i ≤ n ∧ v6 = .int .i64 (i : Int) ∧ Hid (∃ G now S, Pl W wx G c s now S)) (fun v6 _ => n - (intOf v6).toNat)
    case atStart => exact ⟨0, by omega, rfl, Lib.hid ⟨_, _, _, R3.out⟩⟩
    case round =>
      obtain ⟨i, hi, rfl, HR⟩ := hrel
      obtain ⟨G, now, S, hpl⟩ := HR.out
      have P := Lib.hid hpl
      clear hpl HR
      by_cases hin : i < n
      · have hi2 : (i : Int) < (n : Int) := by omega
        obtain ⟨b, o, m, rfl, _, hwf, hcl⟩ := HIN.out.at_ i hin
        obtain ⟨c0, c1, c2⟩ := hcl wr P.out.cw.b
        have HWF := Lib.hid hwf
        have HCL := Lib.hid hcl
        clear hwf hcl
        by_cases h2 : m.what = 2
        · rw [h2] at c0
          obtain ⟨bd, hbd⟩ : ∃ bd, (atM m.id S).isSome = bd := ⟨_, rfl⟩
          have HBD := Lib.hid hbd
          clear hbd
          go_upto_region 16 with (go_at_call 12; refine (w_drop P.out.cw m.id HWF.out.2.1 bd HBD.out).mono ?_; rintro e u4 ⟨rfl, h1, hs⟩; have R4 := Lib.hid (And.intro h1 hs); clear h1 hs)
          obtain ⟨d0, d1, d2⟩ := HCL.out u4 R4.out.1.b
          go_upto_region 24 with (go_at_call 13; refine (rdrop_ok _ (P.out.mid R4.out.1 R4.out.2) m.id bd HBD.out).mono ?_; rintro e u5 ⟨rfl, h1, hs⟩; have P5 := Lib.hid (P.out.two R4.out.1 R4.out.2 (fun _ => h1) hs); clear h1 hs)
          obtain ⟨g0, g1, g2⟩ := HCL.out u5 P5.out.cw.b
          obtain ⟨x, hx⟩ : ∃ x, (atM m.id (outM m.id S)).getD 0 = x := ⟨_, rfl⟩
          obtain ⟨bx, hbx⟩ : ∃ bx, (atM m.id (outM m.id S)).isSome = bx := ⟨_, rfl⟩
          have HA1 := Lib.hid (w_at P5.out.cw m.id HWF.out.2.1 x bx hx hbx)
          have HA2 := Lib.hid (rat_ok _ P5.out.rk m.id x bx hx hbx)
          obtain ⟨Ar, cpr, e1, _, _, _, _⟩ := P5.out.rk.ex
          obtain ⟨r0, r1⟩ := e1.cells2
          obtain ⟨kk, hkk⟩ : ∃ kk, (outM m.id S).length = kk := ⟨_, rfl⟩
          rw [hkk] at r0
          have HNOW := Lib.hid (fun q => w_now (P5.out.cw.ke ((Ke.refl _ _).drewN q)))
          have HMANY := Lib.hid (fun q => w_many (P5.out.cw.ke ((Ke.refl _ _).drewN q)) kk hkk)
          have HFIN := Lib.hid (fun q => P5.out.ke ((Ke.refl _ _).drewN q))
          clear hx hbx e1 hkk
          go_upto_region 25 with (go_at_call 19; refine HA1.out.mono ?_; rintro e w7 ⟨rfl, rfl⟩)
          go_upto_region 26 with (go_at_call 20; refine HA2.out.mono ?_; rintro e w8 ⟨rfl, rfl⟩)
          go_quiet (first | (go_at_call 21; exact Calls.quiet_of_same (HNOW.out _)) | (go_at_call 22; exact Calls.quiet_of_same (HMANY.out _)))
          go_wp2_with fail
          go_roundw
          case rel => exact ⟨i + 1, by omega, by go_num, Lib.hid ⟨_, _, _, HFIN.out _⟩⟩
          case measure => simp [intOf]; omega
        · have hb2' : (m.what == 2) = false := by simp [h2]
          by_cases h3 : m.what = 3
          · rw [h3] at c0
            by_cases hok : 0 ≤ m.n ∧ m.n ≤ 1099511627776 - now
            · obtain ⟨nw, hnw⟩ : ∃ nw, now + m.n = nw := ⟨_, rfl⟩
              obtain ⟨L, hL⟩ : ∃ L, goM nw S = L := ⟨_, rfl⟩
              obtain ⟨q, hq⟩ : ∃ q, L.length = q := ⟨_, rfl⟩
              have HL := Lib.hid (show now + m.n = nw ∧ goM nw S = L ∧ L.length = q ∧ q ≤ 1024 from ⟨hnw, hL, hq, by rw [← hq, ← hL]; exact Nat.le_trans (go_length_le _ _) P.out.cw.ck.few⟩)
              have HOK := Lib.hid hok
              have HK := Lib.hid (show ∀ x ∈ s :: G, x < wr.heap.size from fun x hx => by
                rcases List.mem_cons.1 hx with rfl | hx
                · exact P.out.rk.lt
                · exact P.out.cw.ck.low x hx)
              clear hnw hL hq hok
              go_upto_region 21 with (go_at_call 14; refine (w_tickK P.out.cw (s :: G) HK.out m.n HWF.out.2.2 HOK.out.1 HOK.out.2 nw L (stayM nw S) q HL.out.1 HL.out.2.1 rfl HL.out.2.2.1).mono ?_; rintro e u4 ⟨A1, p1, rfl, h1, _, _, _, h5, h6⟩; have R4 := Lib.hid (And.intro h5 (And.intro h6 h1)); clear h1 h5 h6)
              obtain ⟨d0, d1, d2⟩ := HCL.out u4 R4.out.1.b
              go_upto_region 22 with (go_at_call 15; refine (r_tick (P.out.mid R4.out.1 R4.out.2.1) m.n HWF.out.2.2 HOK.out.1 HOK.out.2 nw L q HL.out.1 HL.out.2.1 HL.out.2.2.1).mono ?_; rintro e u5 ⟨A2, p2, rfl, h1, h2', hs⟩; have P5 := Lib.hid (And.intro (P.out.two R4.out.1 R4.out.2.1 (fun _ => h2') hs) (And.intro h1 (R4.out.2.2.keep hs (by simp)))); clear h1 h2' hs)
              go_upto_region 24 with (go_at_call 16; refine (same_b A1 A2 p1 p2 L _ _ _ q HL.out.2.2.1 P5.out.2.2 P5.out.2.1 (by have := HL.out.2.2.2; omega)).mono ?_; rintro e u6 ⟨rfl, h1⟩; have P6 := Lib.hid (P5.out.1.ke h1); clear h1)
              obtain ⟨g0, g1, g2⟩ := HCL.out u6 P6.out.cw.b
              obtain ⟨x, hx⟩ : ∃ x, (atM m.id (stayM nw S)).getD 0 = x := ⟨_, rfl⟩
              obtain ⟨bx, hbx⟩ : ∃ bx, (atM m.id (stayM nw S)).isSome = bx := ⟨_, rfl⟩
              have HA1 := Lib.hid (w_at P6.out.cw m.id HWF.out.2.1 x bx hx hbx)
              have HA2 := Lib.hid (rat_ok _ P6.out.rk m.id x bx hx hbx)
              obtain ⟨Ar, cpr, e1, _, _, _, _⟩ := P6.out.rk.ex
              obtain ⟨r0, r1⟩ := e1.cells2
              obtain ⟨kk, hkk⟩ : ∃ kk, (stayM nw S).length = kk := ⟨_, rfl⟩
              rw [hkk] at r0
              have HNOW := Lib.hid (fun q => w_now (P6.out.cw.ke ((Ke.refl _ _).drewN q)))
              have HMANY := Lib.hid (fun q => w_many (P6.out.cw.ke ((Ke.refl _ _).drewN q)) kk hkk)
              have HFIN := Lib.hid (fun q => P6.out.ke ((Ke.refl _ _).drewN q))
              clear hx hbx e1 hkk
              go_upto_region 25 with (go_at_call 19; refine HA1.out.mono ?_; rintro e w7 ⟨rfl, rfl⟩)
              go_upto_region 26 with (go_at_call 20; refine HA2.out.mono ?_; rintro e w8 ⟨rfl, rfl⟩)
              go_quiet (first | (go_at_call 21; exact Calls.quiet_of_same (HNOW.out _)) | (go_at_call 22; exact Calls.quiet_of_same (HMANY.out _)))
              go_wp2_with fail
              go_roundw
              case rel => exact ⟨i + 1, by omega, by go_num, Lib.hid ⟨_, _, _, HFIN.out _⟩⟩
              case measure => simp [intOf]; omega
            · have HBAD := Lib.hid (show m.n < 0 ∨ 1099511627776 - now < m.n by omega)
              clear hok
              go_upto_region 21 with (go_at_call 14; refine (w_tick_bad P.out.cw m.n HWF.out.2.2 HBAD.out).mono ?_; rintro e u4 ⟨rfl, h5, h6⟩; have R4 := Lib.hid (And.intro h5 h6); clear h5 h6)
              obtain ⟨d0, d1, d2⟩ := HCL.out u4 R4.out.1.b
              go_upto_region 22 with (go_at_call 15; refine (r_tick_bad (P.out.mid R4.out.1 R4.out.2) m.n HWF.out.2.2 HBAD.out).mono ?_; rintro e u5 ⟨rfl, h2', hs⟩; have P5 := Lib.hid (P.out.two R4.out.1 R4.out.2 (fun _ => h2') hs); clear h2' hs)
              go_upto_region 24 with (go_at_call 16; refine (same_b none none 0 0 [] [] [] _ 0 rfl (.inl rfl) (.inl rfl) (by omega)).mono ?_; rintro e u6 ⟨rfl, h1⟩; have P6 := Lib.hid (P5.out.ke h1); clear h1)
              obtain ⟨g0, g1, g2⟩ := HCL.out u6 P6.out.cw.b
              obtain ⟨x, hx⟩ : ∃ x, (atM m.id (S)).getD 0 = x := ⟨_, rfl⟩
              obtain ⟨bx, hbx⟩ : ∃ bx, (atM m.id (S)).isSome = bx := ⟨_, rfl⟩
              have HA1 := Lib.hid (w_at P6.out.cw m.id HWF.out.2.1 x bx hx hbx)
              have HA2 := Lib.hid (rat_ok _ P6.out.rk m.id x bx hx hbx)
              obtain ⟨Ar, cpr, e1, _, _, _, _⟩ := P6.out.rk.ex
              obtain ⟨r0, r1⟩ := e1.cells2
              obtain ⟨kk, hkk⟩ : ∃ kk, (S).length = kk := ⟨_, rfl⟩
              rw [hkk] at r0
              have HNOW := Lib.hid (fun q => w_now (P6.out.cw.ke ((Ke.refl _ _).drewN q)))
              have HMANY := Lib.hid (fun q => w_many (P6.out.cw.ke ((Ke.refl _ _).drewN q)) kk hkk)
              have HFIN := Lib.hid (fun q => P6.out.ke ((Ke.refl _ _).drewN q))
              clear hx hbx e1 hkk
              go_upto_region 25 with (go_at_call 19; refine HA1.out.mono ?_; rintro e w7 ⟨rfl, rfl⟩)
              go_upto_region 26 with (go_at_call 20; refine HA2.out.mono ?_; rintro e w8 ⟨rfl, rfl⟩)
              go_quiet (first | (go_at_call 21; exact Calls.quiet_of_same (HNOW.out _)) | (go_at_call 22; exact Calls.quiet_of_same (HMANY.out _)))
              go_wp2_with fail
              go_roundw
              case rel => exact ⟨i + 1, by omega, by go_num, Lib.hid ⟨_, _, _, HFIN.out _⟩⟩
              case measure => simp [intOf]; omega
          · have hb3' : (m.what == 3) = false := by simp [h3]
            obtain ⟨E, hE⟩ : ∃ E, setE now S m.id m.n = E := ⟨_, rfl⟩
            have HE := Lib.hid hE
            clear hE
            go_upto_region 10 with fail
            go_region_with (go_at_call 17; refine (w_set (P.out.cw.ke (Ke.refl _ _).drew) m.id HWF.out.2.1 m.n E _ HE.out rfl).mono ?_; rintro e u4 ⟨G1, rfl, h1, hs⟩; have R4 := Lib.hid (And.intro h1 hs); clear h1 hs; have d1 := (HCL.out u4 R4.out.1.b).2.1; have d2 := (HCL.out u4 R4.out.1.b).2.2)
            all_goals go_wp2_with fail
            all_goals (go_region_with (go_at_call 18; refine (rset_ok _ (((P.out.ke (Ke.refl _ _).drew).mid R4.out.1 R4.out.2).ke (Ke.refl _ _).drew) m.id m.n E _ HE.out rfl).mono ?_; rintro e u5 ⟨rfl, h1, hs⟩; have P5 := Lib.hid ((P.out.ke (Ke.refl _ _).drew).two R4.out.1 R4.out.2 (fun _ => h1) ((Ke.refl _ _).drew.trans hs)); clear h1 hs))
            all_goals go_upto_region 24 with fail
            all_goals (
              obtain ⟨g0, g1, g2⟩ := HCL.out u5 P5.out.cw.b
              obtain ⟨x, hx⟩ : ∃ x, (atM m.id (setS now S m.id m.n)).getD 0 = x := ⟨_, rfl⟩
              obtain ⟨bx, hbx⟩ : ∃ bx, (atM m.id (setS now S m.id m.n)).isSome = bx := ⟨_, rfl⟩
              have HA1 := Lib.hid (w_at P5.out.cw m.id HWF.out.2.1 x bx hx hbx)
              have HA2 := Lib.hid (rat_ok _ P5.out.rk m.id x bx hx hbx)
              obtain ⟨Ar, cpr, e1, _, _, _, _⟩ := P5.out.rk.ex
              obtain ⟨r0, r1⟩ := e1.cells2
              obtain ⟨kk, hkk⟩ : ∃ kk, (setS now S m.id m.n).length = kk := ⟨_, rfl⟩
              rw [hkk] at r0
              have HNOW := Lib.hid (fun q => w_now (P5.out.cw.ke ((Ke.refl _ _).drewN q)))
              have HMANY := Lib.hid (fun q => w_many (P5.out.cw.ke ((Ke.refl _ _).drewN q)) kk hkk)
              have HFIN := Lib.hid (fun q => P5.out.ke ((Ke.refl _ _).drewN q))
              clear hx hbx e1 hkk
              go_upto_region 25 with (go_at_call 19; refine HA1.out.mono ?_; rintro e w7 ⟨rfl, rfl⟩)
              go_upto_region 26 with (go_at_call 20; refine HA2.out.mono ?_; rintro e w8 ⟨rfl, rfl⟩)
              go_quiet (first | (go_at_call 21; exact Calls.quiet_of_same (HNOW.out _)) | (go_at_call 22; exact Calls.quiet_of_same (HMANY.out _)))
              go_wp2_with fail
              exact ⟨⟨i + 1, by omega, by go_num, Lib.hid ⟨_, _, _, HFIN.out _⟩⟩, by simp [intOf]; omega⟩)
      · have hi2 : ¬ (i : Int) < (n : Int) := by omega
        have hid : decide ((i : Int) < (n : Int)) = false := by simp only [decide_eq_false_iff_not]; omega
        go_wp2_with fail
        go_ret
        exact ⟨rfl, P.out.cw.b⟩
end Go.Proofs.Ytdfllobdefodfaa
