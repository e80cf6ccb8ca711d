/- The document's own table of connections: Feed, Rest, Next, Say, Half, Budget, Flush. (Written by gen_cdr3.py.) -/
import Derived.Test.YtndamiocmdnenaaGreatG12
import Derived.Test.YtndamiocmdnenaaGreatG1
import Derived.Test.YtndamiocmdnenaaGreatG8
import Derived.StillTailTactics
namespace Go.Proofs.YtndamiocmdnenaaGreat
set_option linter.unusedVariables false
set_option maxRecDepth 100000
set_option linter.unusedSimpArgs false
open Go.RowKit

section
variable {W u u' : World} {H H' : List Nat} {rb : Nat} {t : Tc}
set_option maxRecDepth 100000 in
set_option maxHeartbeats 8000000 in
theorem d_feed (h : Cdt W u H rb t) (hg : Gc t) (id : Int) (A : Option Addr) (n cp : Nat) (l : List UInt8) (hl : l.length = n) (hcap : n ≤ cp) (hcm : cp ≤ 9223372036854775807) (hn0 : A = none → n = 0 ∧ cp = 0) (hR : Rf u H A l) (r : Nat) (t2 : Tc) (hE : feC t id l = (r, t2)) :
    Calls Tryz.prog 26 #[.pointer (some ⟨rb, 0, none⟩), .int .i64 id, .slice A n cp] u fun e u' => ∃ H', (e = .returned (.int .i64 (r : Int))) ∧ Cdt W u' H' rb t2 ∧ Sp u u' H H' := by
  have hf : t.l.length ≤ 1000000 := by have := hg.few; omega
  have HF := Lib.hid (d_find h hf id _ rfl)
  cases hc : t.f id with
  | none =>
    rw [fi_miss hc] at HF
    unfold feC at hE
    rw [hc] at hE
    injection hE with hE1 hE2
    subst hE1
    subst hE2
    have HD := Lib.hid h
    clear hf hc
    go_enter Tryz.func26, Tryz.ntmps26
    go_wp2_with (go_at_call 70; (with_reducible refine (HF.out).mono ?_); rintro e u2 ⟨rfl, hu⟩; rw [hu]; clear hu)
    go_ret
    exact ⟨H, rfl, HD.out, Sp.refl _ _⟩
  | some c =>
    unfold feC at hE
    rw [hc] at hE
    obtain ⟨k, n9, cq9, b, x, y, hh⟩ := h.hit hc
    have HCS := Lib.hid hh.cs
    obtain ⟨c0, c1, c2, c3, c4, c5⟩ := hh.cs u (Ke.refl _ _)
    have hk1 := hh.lt
    have hk2 : (k : Int) < (n9 : Int) := by omega
    have hn6 : n9 ≤ 1000000 := by rw [← hh.ln]; exact hf
    have hk3 : ¬ ((k : Int) < 0) := by omega
    rw [hh.fi] at HF
    obtain ⟨T, R, d, hx, hTk, rfl, rfl, rfl, rfl⟩ := hh.sp
    have HX := Lib.hid hx
    have HG := Lib.hid hg
    have HD := Lib.hid h
    have HTK := Lib.hid hTk
    clear h hf hh hg hTk
    dsimp only at hE
    cases hen : d.c.en with
    | true =>
      rw [hen] at c5
      rw [if_pos hen] at hE
      injection hE with hE1 hE2
      subst hE1; subst hE2
      clear hc hen hx
      go_enter Tryz.func26, Tryz.ntmps26
      go_wp2_with (go_at_call 70; (with_reducible refine (HF.out).mono ?_); rintro e u2 ⟨rfl, hu⟩; rw [hu]; clear hu)
      go_ret
      exact ⟨H, rfl, HD.out, Sp.refl _ _⟩
    | false =>
      rw [hen] at c5
      rw [if_neg (by rw [hen]; simp)] at hE
      injection hE with hE1 hE2
      obtain ⟨Aq, cq, hrs, haq⟩ := (hx.rg d (by simp)).1.ex
      obtain ⟨kq, hkq⟩ : ∃ kq, d.c.q.length = kq := ⟨_, rfl⟩
      have hfit := hrs.fit
      rw [hkq] at hfit
      obtain ⟨z, hz⟩ : ∃ z, 512 - kq = z := ⟨_, rfl⟩
      rw [hl, hkq, hz] at hE1
      rw [hkq, hz] at hE2
      have HADD := Lib.hid (radd_okF d.x 512 A n cp l d.c.q Aq cq u hrs hl hcap hcm hn0 (hR.less (fun y hy => by rw [List.mem_singleton.1 hy]; exact (hx.rg d (by simp)).1.sH)) kq z r hkq hz hE1)
      have HE2 := Lib.hid hE2
      clear hc hen hx hE1 hE2 hrs haq hkq hz
      go_enter Tryz.func26, Tryz.ntmps26
      go_wp2_with (first | (go_at_call 70; (with_reducible refine (HF.out).mono ?_); rintro e u2 ⟨rfl, hu⟩; rw [hu]; clear hu) | (go_at_call 71; (with_reducible refine (HADD.out).mono ?_); rintro e u2 ⟨A4, c4, rfl, g1, g2, g3⟩; have HA := Lib.hid (HX.out.ringX HG.out g2 g1 g3); clear g1 g2 g3))
      go_ret
      rw [← HE2.out]
      exact ⟨_, rfl, HA.out.1.cdt, HA.out.2⟩
set_option maxRecDepth 100000 in
set_option maxHeartbeats 8000000 in
theorem d_rest (h : Cdt W u H rb t) (hg : Gc t) (id : Int) (xn : Int) (n : Nat) (l : List UInt8) (hn : l.length = n) (t2 : Tc) (hE : reC t id xn = (l, t2)) :
    Calls Tryz.prog 29 #[.pointer (some ⟨rb, 0, none⟩), .int .i64 id, .int .i64 xn] u fun e u' => ∃ H', (∃ A cp, e = .returned (.slice A n cp) ∧ Rb u' u'.heap.size A l) ∧ Cdt W u' H' rb t2 ∧ Sp u u' H H' := by
  have hf : t.l.length ≤ 1000000 := by have := hg.few; omega
  have HF := Lib.hid (d_find h hf id _ rfl)
  cases hc : t.f id with
  | none =>
    rw [fi_miss hc] at HF
    unfold reC at hE
    rw [hc] at hE
    injection hE with hE1 hE2
    subst hE1
    obtain rfl : n = 0 := hn.symm
    subst hE2
    have HD := Lib.hid h
    clear hf hc
    go_enter Tryz.func29, Tryz.ntmps29
    go_wp2_with (go_at_call 70; (with_reducible refine (HF.out).mono ?_); rintro e u2 ⟨rfl, hu⟩; rw [hu]; clear hu)
    go_ret
    exact ⟨H, ⟨none, 0, rfl, .inl rfl⟩, HD.out, Sp.refl _ _⟩
  | some c =>
    unfold reC at hE
    rw [hc] at hE
    obtain ⟨k, n9, cq9, b, x, y, hh⟩ := h.hit hc
    have HCS := Lib.hid hh.cs
    obtain ⟨c0, c1, c2, c3, c4, c5⟩ := hh.cs u (Ke.refl _ _)
    have hk1 := hh.lt
    have hk2 : (k : Int) < (n9 : Int) := by omega
    have hn6 : n9 ≤ 1000000 := by rw [← hh.ln]; exact hf
    have hk3 : ¬ ((k : Int) < 0) := by omega
    rw [hh.fi] at HF
    obtain ⟨T, R, d, hx, hTk, rfl, rfl, rfl, rfl⟩ := hh.sp
    have HX := Lib.hid hx
    have HG := Lib.hid hg
    have HD := Lib.hid h
    have HTK := Lib.hid hTk
    clear h hf hh hg hTk
    dsimp only at hE
    injection hE with hE1 hE2
    obtain ⟨Aq, cq, hrs, haq⟩ := (hx.rg d (by simp)).1.ex
    obtain ⟨kq, hkq⟩ : ∃ kq, d.c.q.length = kq := ⟨_, rfl⟩
    have hfit := hrs.fit
    rw [hkq] at hfit
    obtain ⟨tk, htk⟩ : ∃ tk, takeM xn kq = tk := ⟨_, rfl⟩
    rw [hkq, htk] at hE1 hE2
    have HT := Lib.hid (rtake_okF d.x 512 xn d.c.q Aq cq u hrs kq tk hkq htk)
    have htl : tk = n := by rw [← hn, ← hE1, List.length_take, hkq]; have := takeM_le xn kq; omega
    rw [hE1, htl] at HT
    rw [htl] at hE2
    have HE2 := Lib.hid hE2
    clear hc hx hE1 hE2 hrs haq hkq htk htl
    go_enter Tryz.func29, Tryz.ntmps29
    go_wp2_with (first | (go_at_call 70; (with_reducible refine (HF.out).mono ?_); rintro e u2 ⟨rfl, hu⟩; rw [hu]; clear hu) | (go_at_call 73; (with_reducible refine (HT.out).mono ?_); rintro e u2 ⟨A2, c2, A4, c4, rfl, g0, g1, g2, g3⟩; have HA := Lib.hid (HX.out.ringX HG.out g2 g1 g3); have HB := Lib.hid g0; clear g0 g1 g2 g3))
    go_ret
    rw [← HE2.out]
    exact ⟨_, ⟨A2, c2, rfl, HB.out⟩, HA.out.1.cdt, HA.out.2⟩
set_option maxRecDepth 100000 in
set_option maxHeartbeats 8000000 in
theorem d_say (h : Cdt W u H rb t) (hg : Gc t) (id : Int) (A : Option Addr) (n cp : Nat) (l : List UInt8) (hl : l.length = n) (hcap : n ≤ cp) (hcm : cp ≤ 9223372036854775807) (hn0 : A = none → n = 0 ∧ cp = 0) (hR : Rf u H A l) (r : Bool) (t2 : Tc) (hE : saC t id l = (r, t2)) :
    Calls Tryz.prog 30 #[.pointer (some ⟨rb, 0, none⟩), .int .i64 id, .slice A n cp] u fun e u' => ∃ H', (e = .returned (.bool r)) ∧ Cdt W u' H' rb t2 ∧ Sp u u' H H' := by
  have hf : t.l.length ≤ 1000000 := by have := hg.few; omega
  have HF := Lib.hid (d_find h hf id _ rfl)
  cases hc : t.f id with
  | none =>
    rw [fi_miss hc] at HF
    unfold saC at hE
    rw [hc] at hE
    injection hE with hE1 hE2
    subst hE1
    subst hE2
    have HD := Lib.hid h
    clear hf hc
    go_enter Tryz.func30, Tryz.ntmps30
    go_wp2_with (go_at_call 70; (with_reducible refine (HF.out).mono ?_); rintro e u2 ⟨rfl, hu⟩; rw [hu]; clear hu)
    go_ret
    exact ⟨H, rfl, HD.out, Sp.refl _ _⟩
  | some c =>
    unfold saC at hE
    rw [hc] at hE
    obtain ⟨k, n9, cq9, b, x, y, hh⟩ := h.hit hc
    have HCS := Lib.hid hh.cs
    obtain ⟨c0, c1, c2, c3, c4, c5⟩ := hh.cs u (Ke.refl _ _)
    have hk1 := hh.lt
    have hk2 : (k : Int) < (n9 : Int) := by omega
    have hn6 : n9 ≤ 1000000 := by rw [← hh.ln]; exact hf
    have hk3 : ¬ ((k : Int) < 0) := by omega
    rw [hh.fi] at HF
    obtain ⟨T, R, d, hx, hTk, rfl, rfl, rfl, rfl⟩ := hh.sp
    have HX := Lib.hid hx
    have HG := Lib.hid hg
    have HD := Lib.hid h
    have HTK := Lib.hid hTk
    clear h hf hh hg hTk
    obtain ⟨Aq, cq, hrs, haq⟩ := (hx.rg d (by simp)).2.ex
    obtain ⟨kq, hkq⟩ : ∃ kq, d.c.w.length = kq := ⟨_, rfl⟩
    have hfit := hrs.fit
    rw [hkq] at hfit
    obtain ⟨z, hz⟩ : ∃ z, 1024 - kq = z := ⟨_, rfl⟩
    have HRM := Lib.hid (d_room HD.out (by have := HG.out.few; omega) d.id z (by unfold roC; rw [hc]; show 1024 - d.c.w.length = z; rw [hkq, hz]))
    dsimp only at hE
    rw [hl, hkq, hz] at hE
    by_cases hfit2 : z < n
    · rw [if_pos hfit2] at hE
      injection hE with hE1 hE2
      subst hE1; subst hE2
      have hz2 : (z : Int) < (n : Int) := by omega
      have hz3 : decide ((z : Int) < (n : Int)) = true := decide_eq_true hz2
      have hz4 : decide (z < n) = true := decide_eq_true hfit2
      clear hc hx hrs haq hkq hz
      go_enter Tryz.func30, Tryz.ntmps30
      go_wp2_with (first | (go_at_call 70; (with_reducible refine (HF.out).mono ?_); rintro e u2 ⟨rfl, hu⟩; rw [hu]; clear hu) | (go_at_call 41; (with_reducible refine (HRM.out).mono ?_); rintro e u2 ⟨rfl, hu⟩; rw [hu]; clear hu))
      go_ret
      exact ⟨H, rfl, HD.out, Sp.refl _ _⟩
    · rw [if_neg hfit2] at hE
      injection hE with hE1 hE2
      subst hE1
      have hz2 : ¬ (z : Int) < (n : Int) := by omega
      have hz3 : decide ((z : Int) < (n : Int)) = false := decide_eq_false hz2
      have hz4 : decide (z < n) = false := decide_eq_false hfit2
      have HADD := radd_okF d.y 1024 A n cp l d.c.w Aq cq u hrs hl hcap hcm hn0 (hR.less (fun y hy => by rw [List.mem_singleton.1 hy]; exact (hx.rg d (by simp)).2.sH)) kq z n hkq hz (by omega)
      rw [List.take_of_length_le (by omega : l.length ≤ z)] at HADD
      have HADD := Lib.hid HADD
      have HE2 := Lib.hid hE2
      clear hc hx hE2 hrs haq hkq hz
      go_enter Tryz.func30, Tryz.ntmps30
      go_wp2_with (first | (go_at_call 70; (with_reducible refine (HF.out).mono ?_); rintro e u2 ⟨rfl, hu⟩; rw [hu]; clear hu) | (go_at_call 41; (with_reducible refine (HRM.out).mono ?_); rintro e u2 ⟨rfl, hu⟩; rw [hu]; clear hu) | (go_at_call 71; (with_reducible refine (HADD.out).mono ?_); rintro e u2 ⟨A4, c4, rfl, g1, g2, g3⟩; have HA := Lib.hid (HX.out.ringY HG.out g2 g1 g3); clear g1 g2 g3))
      go_ret
      rw [← HE2.out]
      exact ⟨_, rfl, HA.out.1.cdt, HA.out.2⟩
set_option maxRecDepth 100000 in
set_option maxHeartbeats 8000000 in
theorem d_half (h : Cdt W u H rb t) (hg : Gc t) (id : Int) (r : Bool) (t2 : Tc) (hE : haC t id = (r, t2)) :
    Calls Tryz.prog 33 #[.pointer (some ⟨rb, 0, none⟩), .int .i64 id] u fun e u' => ∃ H', (e = .returned (.bool r)) ∧ Cdt W u' H' rb t2 ∧ Sp u u' H H' := by
  have hf : t.l.length ≤ 1000000 := by have := hg.few; omega
  have HF := Lib.hid (d_find h hf id _ rfl)
  cases hc : t.f id with
  | none =>
    rw [fi_miss hc] at HF
    unfold haC at hE
    rw [hc] at hE
    injection hE with hE1 hE2
    subst hE1
    subst hE2
    have HD := Lib.hid h
    clear hf hc
    go_enter Tryz.func33, Tryz.ntmps33
    go_wp2_with (go_at_call 70; (with_reducible refine (HF.out).mono ?_); rintro e u2 ⟨rfl, hu⟩; rw [hu]; clear hu)
    go_ret
    exact ⟨H, rfl, HD.out, Sp.refl _ _⟩
  | some c =>
    unfold haC at hE
    rw [hc] at hE
    obtain ⟨k, n9, cq9, b, x, y, hh⟩ := h.hit hc
    have HCS := Lib.hid hh.cs
    obtain ⟨c0, c1, c2, c3, c4, c5⟩ := hh.cs u (Ke.refl _ _)
    have hk1 := hh.lt
    have hk2 : (k : Int) < (n9 : Int) := by omega
    have hn6 : n9 ≤ 1000000 := by rw [← hh.ln]; exact hf
    have hk3 : ¬ ((k : Int) < 0) := by omega
    rw [hh.fi] at HF
    obtain ⟨T, R, d, hx, hTk, rfl, rfl, rfl, rfl⟩ := hh.sp
    have HX := Lib.hid hx
    have HG := Lib.hid hg
    have HD := Lib.hid h
    have HTK := Lib.hid hTk
    clear h hf hh hg hTk
    dsimp only at hE
    cases hen : d.c.en with
    | true =>
      rw [hen] at c5
      rw [if_pos hen] at hE
      injection hE with hE1 hE2
      subst hE1; subst hE2
      clear hc hen hx
      go_enter Tryz.func33, Tryz.ntmps33
      go_wp2_with (go_at_call 70; (with_reducible refine (HF.out).mono ?_); rintro e u2 ⟨rfl, hu⟩; rw [hu]; clear hu)
      go_ret
      exact ⟨H, rfl, HD.out, Sp.refl _ _⟩
    | false =>
      rw [hen] at c5
      rw [if_neg (by rw [hen]; simp)] at hE
      injection hE with hE1 hE2
      subst hE1
      have HE2 := Lib.hid hE2
      have hset := hx.cell HG.out 5 (by omega) (.bool true) { d.c with en := true } rfl rfl rfl
      rw [HTK.out] at hset
      have HSET := Lib.hid hset
      have f5 := hx.frz (k * 6 + 5)
      clear hc hen hx hE2 hset
      go_enter Tryz.func33, Tryz.ntmps33
      go_wp2_with (go_at_call 70; (with_reducible refine (HF.out).mono ?_); rintro e u2 ⟨rfl, hu⟩; rw [hu]; clear hu)
      go_ret
      rw [← HE2.out]
      exact ⟨_, rfl, HSET.out.1, HSET.out.2⟩
set_option maxRecDepth 100000 in
set_option maxHeartbeats 8000000 in
theorem d_next (h : Cdt W u H rb t) (hg : Gc t) (id : Int) (n : Nat) (l : List UInt8) (bb : Bool) (er : Int) (hn : l.length = n) (t2 : Tc) (hE : neC t id = ((l, bb, er), t2)) :
    Calls Tryz.prog 27 #[.pointer (some ⟨rb, 0, none⟩), .int .i64 id] u fun e u' => ∃ H', (∃ A cp, e = .returned (.tuple #[.slice A n cp, .bool bb, .int .i64 er]) ∧ Rb u' u'.heap.size A l) ∧ Cdt W u' H' rb t2 ∧ Sp u u' H H' := by
  have hf : t.l.length ≤ 1000000 := by have := hg.few; omega
  have HF := Lib.hid (d_find h hf id _ rfl)
  cases hc : t.f id with
  | none =>
    rw [fi_miss hc] at HF
    unfold neC at hE
    rw [hc] at hE
    injection hE with hE1 hE2
    injection hE1 with hE3 hE4
    injection hE4 with hE5 hE6
    subst hE3; subst hE5; subst hE6
    obtain rfl : n = 0 := hn.symm
    subst hE2
    have HD := Lib.hid h
    clear hf hc
    go_enter Tryz.func27, Tryz.ntmps27
    go_wp2_with (go_at_call 70; (with_reducible refine (HF.out).mono ?_); rintro e u2 ⟨rfl, hu⟩; rw [hu]; clear hu)
    go_ret3
    exact ⟨H, ⟨none, 0, rfl, .inl rfl⟩, HD.out, Sp.refl _ _⟩
  | some c =>
    unfold neC at hE
    rw [hc] at hE
    obtain ⟨k, n9, cq9, b, x, y, hh⟩ := h.hit hc
    have HCS := Lib.hid hh.cs
    obtain ⟨c0, c1, c2, c3, c4, c5⟩ := hh.cs u (Ke.refl _ _)
    have hk1 := hh.lt
    have hk2 : (k : Int) < (n9 : Int) := by omega
    have hn6 : n9 ≤ 1000000 := by rw [← hh.ln]; exact hf
    have hk3 : ¬ ((k : Int) < 0) := by omega
    rw [hh.fi] at HF
    obtain ⟨T, R, d, hx, hTk, rfl, rfl, rfl, rfl⟩ := hh.sp
    have HX := Lib.hid hx
    have HG := Lib.hid hg
    have HD := Lib.hid h
    have HTK := Lib.hid hTk
    clear h hf hh hg hTk
    obtain ⟨Aq, cq, hrs, haq⟩ := (hx.rg d (by simp)).1.ex
    obtain ⟨kq, hkq⟩ : ∃ kq, d.c.q.length = kq := ⟨_, rfl⟩
    have hfit := hrs.fit
    rw [hkq] at hfit
    have HFI := rfirst_ok Aq kq cq d.c.q u hkq (by rw [← hkq]; exact hrs.cap) hrs.max hrs.rd.rb
    have r0 := (ref_cells hrs.bk).1
    rw [hkq] at r0
    have HRS := Lib.hid (And.intro hrs (And.intro hkq (fun a ha => hx.hi _ (haq a ha).1)))
    have HDX := Lib.hid (show d.x < u.heap.size from hrs.bk.lt)
    dsimp only at hE
    by_cases hb : begB d.c.q = false
    · rw [if_pos hb] at hE
      injection hE with hE1 hE2
      injection hE1 with hE3 hE4
      injection hE4 with hE5 hE6
      subst hE3; subst hE5; subst hE6; subst hE2
      obtain rfl : n = 0 := hn.symm
      rw [part_nil _ (beg_none _ hb), beg_none _ hb, err_bad _ hb] at HFI
      have HFI := Lib.hid HFI
      clear hc hx hb hrs haq hkq
      go_enter Tryz.func27, Tryz.ntmps27
      go_wp2_with (first | (go_at_call 70; (with_reducible refine (HF.out).mono ?_); rintro e u2 ⟨rfl, hu⟩; rw [hu]; clear hu) | (go_at_call 72; (with_reducible refine (HFI.out).mono ?_); rintro e u2 ⟨A2, c2_, rfl, g0, g1, g2⟩; have HB := Lib.hid g2; clear g0 g1 g2))
      go_ret3
      exact ⟨H, ⟨none, 0, rfl, .inl rfl⟩, HD.out.on HB.out, Sp.of (Ke.of HB.out).nil⟩
    · have hbt : begB d.c.q = true := by cases hh : begB d.c.q; exact absurd hh hb; rfl
      rw [if_neg hb] at hE
      by_cases h0 : lenF d.c.q = 0
      · rw [if_pos h0] at hE
        injection hE with hE1 hE2
        injection hE1 with hE3 hE4
        injection hE4 with hE5 hE6
        subst hE3; subst hE5; subst hE6; subst hE2
        obtain rfl : n = 0 := hn.symm
        rw [part_nil _ h0, h0, err_ok _ hbt] at HFI
        have HFI := Lib.hid HFI
        clear hc hx hb hrs haq hkq
        go_enter Tryz.func27, Tryz.ntmps27
        go_wp2_with (first | (go_at_call 70; (with_reducible refine (HF.out).mono ?_); rintro e u2 ⟨rfl, hu⟩; rw [hu]; clear hu) | (go_at_call 72; (with_reducible refine (HFI.out).mono ?_); rintro e u2 ⟨A2, c2_, rfl, g0, g1, g2⟩; have HB := Lib.hid g2; clear g0 g1 g2))
        go_ret3
        exact ⟨H, ⟨none, 0, rfl, .inl rfl⟩, HD.out.on HB.out, Sp.of (Ke.of HB.out).nil⟩
      · rw [if_neg h0] at hE
        injection hE with hE1 hE2
        injection hE1 with hE3 hE4
        injection hE4 with hE5 hE6
        subst hE5; subst hE6
        have hle := len_le d.c.q
        have hge := len_ge _ h0
        obtain ⟨ln, hln⟩ : ∃ ln, lenF d.c.q = ln := ⟨_, rfl⟩
        rw [hE3, hn, hln, err_ok _ hbt] at HFI
        rw [hln] at hE2 hle hge
        have HE2 := Lib.hid hE2
        have htk : takeM (ln : Int) kq = ln := by unfold takeM; rw [hkq] at hle; omega
        have hl0 : ((ln : Int) == 0) = false := by rw [beq_eq_false_iff_ne]; omega
        have hl1 : (ln == 0) = false := by rw [beq_eq_false_iff_ne]; omega
        have HFI := Lib.hid HFI
        have HT := Lib.hid (fun (v : World) (hr : Rs v d.x 512 d.c.q Aq cq) => rtake_okF d.x 512 (ln : Int) d.c.q Aq cq v hr kq ln hkq htk)
        clear hc hx hb hrs haq hkq h0 hE2 hE3 hln htk
        go_enter Tryz.func27, Tryz.ntmps27
        go_upto_region 5 with (first | (go_at_call 70; (with_reducible refine (HF.out).mono ?_); rintro e u2 ⟨rfl, hu⟩; rw [hu]; clear hu) | (go_at_call 72; (with_reducible refine (HFI.out).mono ?_); rintro e u2 ⟨A2, c2_, rfl, g0, g1, g2⟩; have HB := Lib.hid (And.intro g0 (And.intro g1 g2)); clear g0 g1 g2))
        have hrs2 : Rs u2 d.x 512 d.c.q Aq cq := HRS.out.1.ke (L := []) (Ke.of HB.out.2.2) (fun x hx => by cases hx)
        have HRS2 := Lib.hid hrs2
        have HX2 := Lib.hid (show Cdx W u2 H rb t (some ⟨b, 0, none⟩) cq9 (T ++ d :: R) from HX.out.keO (K := []) (Ke.of HB.out.2.2) (fun _ _ hx => by cases hx) (HD.out.l.trans (HB.out.2.2.mono HD.out.l.size)))
        clear hrs2 c0 c1 c2 c3 c4 c5 r0
        obtain ⟨c0, c1, c2, c3, c4, c5⟩ := HCS.out u2 (Ke.of HB.out.2.2)
        go_wp2_with (go_at_call 73; (with_reducible refine (HT.out u2 HRS2.out).mono ?_); rintro e u3 ⟨A3, cp3, A4, cp4, rfl, g0, g1, g2, g3⟩; have HA := Lib.hid (HX2.out.ringX HG.out g2 g1 g3); have HK := Lib.hid g2; clear g0 g1 g2 g3)
        go_ret3
        rw [← HE2.out]
        refine ⟨_, ⟨A2, c2_, rfl, ?_⟩, HA.out.1.cdt, (Sp.of (Ke.of HB.out.2.2).nil).trans HA.out.2⟩
        have hrf : Rf u2 [d.x] A2 l := HB.out.1.rfR (fun x hx => by rw [List.mem_singleton.1 hx]; exact HDX.out)
        exact (hrf.ke HK.out (fun x hx => hx)).rb
set_option maxRecDepth 100000 in
set_option maxHeartbeats 8000000 in
theorem d_budget (h : Cdt W u H rb t) (hg : Gc t) (id : Int) (xn : Int) (r : Bool) (t2 : Tc) (hE : buC t id xn = (r, t2)) :
    Calls Tryz.prog 31 #[.pointer (some ⟨rb, 0, none⟩), .int .i64 id, .int .i64 xn] u fun e u' => ∃ H', (e = .returned (.bool r)) ∧ Cdt W u' H' rb t2 ∧ Sp u u' H H' := by
  have hf : t.l.length ≤ 1000000 := by have := hg.few; omega
  have HF := Lib.hid (d_find h hf id _ rfl)
  cases hc : t.f id with
  | none =>
    rw [fi_miss hc] at HF
    unfold buC at hE
    rw [hc] at hE
    injection hE with hE1 hE2
    subst hE1
    subst hE2
    have HD := Lib.hid h
    clear hf hc
    go_enter Tryz.func31, Tryz.ntmps31
    go_wp2_with (go_at_call 70; (with_reducible refine (HF.out).mono ?_); rintro e u2 ⟨rfl, hu⟩; rw [hu]; clear hu)
    go_ret
    exact ⟨H, rfl, HD.out, Sp.refl _ _⟩
  | some c =>
    unfold buC at hE
    rw [hc] at hE
    obtain ⟨k, n9, cq9, b, x, y, hh⟩ := h.hit hc
    have HCS := Lib.hid hh.cs
    obtain ⟨c0, c1, c2, c3, c4, c5⟩ := hh.cs u (Ke.refl _ _)
    have hk1 := hh.lt
    have hk2 : (k : Int) < (n9 : Int) := by omega
    have hn6 : n9 ≤ 1000000 := by rw [← hh.ln]; exact hf
    have hk3 : ¬ ((k : Int) < 0) := by omega
    rw [hh.fi] at HF
    obtain ⟨T, R, d, hx, hTk, rfl, rfl, rfl, rfl⟩ := hh.sp
    have HX := Lib.hid hx
    have HG := Lib.hid hg
    have HD := Lib.hid h
    have HTK := Lib.hid hTk
    clear h hf hh hg hTk
    dsimp only at hE
    by_cases h0 : xn < 0
    · have h0b : decide (xn < 0) = true := decide_eq_true h0
      rw [if_pos (by omega)] at hE
      injection hE with hE1 hE2
      subst hE1; subst hE2
      clear hc hx
      go_enter Tryz.func31, Tryz.ntmps31
      go_wp2_with (go_at_call 70; (with_reducible refine (HF.out).mono ?_); rintro e u2 ⟨rfl, hu⟩; rw [hu]; clear hu)
      go_ret
      exact ⟨H, rfl, HD.out, Sp.refl _ _⟩
    have h0b : decide (xn < 0) = false := decide_eq_false h0
    by_cases h1 : 1073741824 < xn
    · have h1b : decide (1073741824 < xn) = true := decide_eq_true h1
      rw [if_pos (by omega)] at hE
      injection hE with hE1 hE2
      subst hE1; subst hE2
      clear hc hx
      go_enter Tryz.func31, Tryz.ntmps31
      go_wp2_with (go_at_call 70; (with_reducible refine (HF.out).mono ?_); rintro e u2 ⟨rfl, hu⟩; rw [hu]; clear hu)
      go_ret
      exact ⟨H, rfl, HD.out, Sp.refl _ _⟩
    have h1b : decide (1073741824 < xn) = false := decide_eq_false h1
    rw [if_neg (by omega)] at hE
    injection hE with hE1 hE2
    subst hE1
    have HE2 := Lib.hid hE2
    obtain ⟨xk, rfl⟩ : ∃ xk : Nat, xn = (xk : Int) := ⟨xn.toNat, by omega⟩
    obtain ⟨cr, hcr⟩ : ∃ cr, d.c.cr = cr := ⟨_, rfl⟩
    have hcr9 : cr ≤ 1073741824 := by rw [← hcr]; exact (HG.out.at_ hc).2.2
    obtain ⟨sm, hsm⟩ : ∃ sm, cr + xk = sm := ⟨_, rfl⟩
    have hws := (iwrap ((cr : Int) + (xk : Int)) sm (by omega) (by omega)).1
    obtain ⟨mn, hmn⟩ : ∃ mn, min sm 1073741824 = mn := ⟨_, rfl⟩
    have HMIN := Lib.hid (show min (sm : Int) 1073741824 = (mn : Int) by omega)
    have hset := hx.cell HG.out 4 (by omega) (.int .i64 (mn : Int)) { d.c with cr := mn } rfl rfl rfl
    rw [HTK.out] at hset
    have he2 : t.up d.id { d.c with cr := mn } = t2 := by rw [← HE2.out, hcr, show ((xk : Int)).toNat = xk from rfl, hsm, hmn]
    rw [he2] at hset
    have HSET := Lib.hid hset
    have f4 := hx.frz (k * 6 + 4)
    rw [hcr] at c4
    clear hc hx hE2 hset hcr hsm he2 h0 h1 c5 c3 c2 c1
    go_enter Tryz.func31, Tryz.ntmps31
    go_upto_region 4 with (go_at_call 70; (with_reducible refine (HF.out).mono ?_); rintro e u2 ⟨rfl, hu⟩; rw [hu]; clear hu)
    go_still_tail 18, (by kernel_rfl)
    go_wp2_with fail
    go_ret
    rw [HMIN.out]
    exact ⟨_, rfl, HSET.out.1.on ((Below.refl _ _).drew), HSET.out.2.trans (Sp.of (Ke.refl _ _).drew)⟩
set_option maxRecDepth 100000 in
set_option maxHeartbeats 8000000 in
theorem d_flush (h : Cdt W u H rb t) (hg : Gc t) (id : Int) (n : Nat) (l : List UInt8) (hn : l.length = n) (t2 : Tc) (hE : flC t id = (l, t2)) :
    Calls Tryz.prog 32 #[.pointer (some ⟨rb, 0, none⟩), .int .i64 id] u fun e u' => ∃ H', (∃ A cp, e = .returned (.slice A n cp) ∧ Rb u' u'.heap.size A l) ∧ Cdt W u' H' rb t2 ∧ Sp u u' H H' := by
  have hf : t.l.length ≤ 1000000 := by have := hg.few; omega
  have HF := Lib.hid (d_find h hf id _ rfl)
  cases hc : t.f id with
  | none =>
    rw [fi_miss hc] at HF
    unfold flC at hE
    rw [hc] at hE
    injection hE with hE1 hE2
    subst hE1
    obtain rfl : n = 0 := hn.symm
    subst hE2
    have HD := Lib.hid h
    clear hf hc
    go_enter Tryz.func32, Tryz.ntmps32
    go_wp2_with (go_at_call 70; (with_reducible refine (HF.out).mono ?_); rintro e u2 ⟨rfl, hu⟩; rw [hu]; clear hu)
    go_ret
    exact ⟨H, ⟨none, 0, rfl, .inl rfl⟩, HD.out, Sp.refl _ _⟩
  | some c =>
    unfold flC at hE
    rw [hc] at hE
    obtain ⟨k, n9, cq9, b, x, y, hh⟩ := h.hit hc
    have HCS := Lib.hid hh.cs
    obtain ⟨c0, c1, c2, c3, c4, c5⟩ := hh.cs u (Ke.refl _ _)
    have hk1 := hh.lt
    have hk2 : (k : Int) < (n9 : Int) := by omega
    have hn6 : n9 ≤ 1000000 := by rw [← hh.ln]; exact hf
    have hk3 : ¬ ((k : Int) < 0) := by omega
    rw [hh.fi] at HF
    obtain ⟨T, R, d, hx, hTk, rfl, rfl, rfl, rfl⟩ := hh.sp
    have HX := Lib.hid hx
    have HG := Lib.hid hg
    have HD := Lib.hid h
    have HTK := Lib.hid hTk
    clear h hf hh hg hTk
    dsimp only at hE
    injection hE with hE1 hE2
    obtain ⟨Aq, cq, hrs, haq⟩ := (hx.rg d (by simp)).2.ex
    obtain ⟨kq, hkq⟩ : ∃ kq, d.c.w.length = kq := ⟨_, rfl⟩
    have hfit := hrs.fit
    rw [hkq] at hfit
    obtain ⟨cr, hcr⟩ : ∃ cr, d.c.cr = cr := ⟨_, rfl⟩
    have hat := HG.out.at_ hc
    have hcr9 : cr ≤ 1073741824 := by rw [← hcr]; exact hat.2.2
    obtain ⟨tk, htk⟩ : ∃ tk, takeM (cr : Int) kq = tk := ⟨_, rfl⟩
    have htk2 : tk = min cr kq := by rw [← htk]; unfold takeM; omega
    rw [hcr] at hE1
    rw [hcr, hkq] at hE2
    have hq1 : d.c.w.take tk = l := by
      rw [← hE1, htk2]
      rcases Nat.le_total cr kq with e | e
      · rw [Nat.min_eq_left e]
      · rw [Nat.min_eq_right e, List.take_of_length_le (by omega), List.take_of_length_le (by omega)]
    have hq2 : d.c.w.drop tk = d.c.w.drop cr := by
      rw [htk2]
      rcases Nat.le_total cr kq with e | e
      · rw [Nat.min_eq_left e]
      · rw [Nat.min_eq_right e, List.drop_of_length_le (by omega), List.drop_of_length_le (by omega)]
    have htl : tk = n := by rw [← hn, ← hE1, List.length_take, hkq]; omega
    have HT := Lib.hid (show ∀ v, Rs v d.y 1024 d.c.w Aq cq → Calls Tryz.prog 73 #[.pointer (some ⟨d.y, 0, none⟩), .int .i64 (cr : Int)] v fun e u' => ∃ A2 c2 A4 c4, e = .returned (.slice A2 n c2) ∧ Rb u' u'.heap.size A2 l ∧ Rs u' d.y 1024 (d.c.w.drop cr) A4 c4 ∧ Ke [d.y] v u' ∧ (∀ a, A4 = some a → v.heap.size ≤ a.block ∧ a.block < u'.heap.size) from fun v hv => by
      have h9 := rtake_okF d.y 1024 (cr : Int) d.c.w Aq cq v hv kq tk hkq htk
      rw [hq1, hq2, htl] at h9
      exact h9)
    obtain ⟨c9, hc9⟩ : ∃ c9, cr - kq = c9 := ⟨_, rfl⟩
    rw [hc9] at hE2
    have HE2 := Lib.hid hE2
    have hwc := (iwrap ((cr : Int) - (n : Int)) c9 (by omega) (by omega)).1
    have HGU := Lib.hid (HG.out.up_ d.id (c := { d.c with w := d.c.w.drop cr }) ⟨hat.1, by show (d.c.w.drop cr).length ≤ 1024; rw [List.length_drop]; have := hat.2.1; omega, hat.2.2⟩)
    rw [hcr] at c4
    have HCR := Lib.hid hcr
    have HLN := Lib.hid (show (T ++ d :: R).length = n9 by have h9 := hx.at_.1; rw [c0] at h9; injection h9 with h9; injection h9 with _ h9; exact h9.symm)
    have hD : Ke [] u u.drew := (Ke.refl _ _).drew
    have HRSD := Lib.hid (show Rs u.drew d.y 1024 d.c.w Aq cq from hrs.ke (L := []) hD (fun x hx => by cases hx))
    have HXD := Lib.hid (show Cdx W u.drew H rb t (some ⟨b, 0, none⟩) cq9 (T ++ d :: R) from hx.keO (K := []) hD (fun _ _ hx => by cases hx) hx.l.drew)
    clear hc hx hE1 hE2 hrs haq hkq htk htl hq1 hq2 hat htk2 hc9 hcr hD c1 c2 c5
    go_enter Tryz.func32, Tryz.ntmps32
    go_upto_region 4 with (go_at_call 70; (with_reducible refine (HF.out).mono ?_); rintro e u2 ⟨rfl, hu⟩; rw [hu]; clear hu)
    go_still_tail 16, (by kernel_rfl)
    go_upto_region 5 with (go_at_call 73; (with_reducible refine (HT.out u.drew HRSD.out).mono ?_); rintro e u2 ⟨A2, c2, A4, c4_, rfl, g0, g1, g2, g3⟩; have HA := Lib.hid (HXD.out.ringY HG.out g2 g1 g3); have HB := Lib.hid g0; clear g0 g1 g2 g3)
    clear c0 c4 c3
    have hat := HA.out.1.at_
    rw [show (T ++ { d with c := { d.c with w := d.c.w.drop cr } } :: R).length = n9 by rw [← HLN.out]; simp, HTK.out] at hat
    obtain ⟨c0, c4o⟩ := hat
    have c4 : u2.cell? ⟨b, k * 6 + 4, none⟩ = some (.int .i64 (cr : Int)) := by rw [c4o]; show some (Value.int .i64 (d.c.cr : Int)) = _; rw [HCR.out]
    have f4 := HA.out.1.frz (k * 6 + 4)
    have HC4 := Lib.hid c4
    clear c4o
    go_still_tail 18, (by kernel_rfl)
    go_wp2_with fail
    go_ret
    have hset := HA.out.1.cell HGU.out 4 (by omega) (.int .i64 (c9 : Int)) { d.c with w := d.c.w.drop cr, cr := c9 } rfl rfl rfl
    rw [HTK.out] at hset
    rw [up_up, HE2.out] at hset
    have hkb := (HB.out.keep1 HC4.out (fun x hx => by cases hx) (.int .i64 (c9 : Int)))
    have hdr : ∀ w : World, Below w.heap.size w w.drew := fun w => (Below.refl _ _).drew
    have hRB := (hkb.more (by simp [World.setCell])).on (hdr _)
    have hCD := hset.1.on (hdr _)
    have hSP := ((Sp.of (Ke.refl H u).drew).trans HA.out.2).trans (hset.2.trans (Sp.of (Ke.refl _ _).drew))
    first
      | exact ⟨_, ⟨A2, c2, rfl, hRB⟩, hCD, hSP⟩
      | exact ⟨⟨A2, ⟨c2, rfl⟩, hRB⟩, _, hCD, hSP⟩
end
end Go.Proofs.YtndamiocmdnenaaGreat
