/- The program's own pump: New, In, Break: their contracts. (Written by gen_puz.py.) -/
import Derived.Test.YtpomeimjgbblmaaPuZ
namespace Go.Proofs.Ytpomeimjgbblmaa
set_option linter.unusedVariables false
set_option maxRecDepth 100000
set_option linter.unusedSimpArgs false
open Go.RowKit

section
variable {W u u' : World} {H H' : List Nat} {pb m : Nat} {p : Pu}
set_option maxRecDepth 100000 in
set_option maxHeartbeats 2000000 in
theorem y_new (x : Int) (m : Nat) (hm : mostM x = m) (h : Below W.heap.size W u) : Calls Try.prog 11 #[.int .i64 x] u fun e u' => ∃ H pb, e = .returned (.pointer (some ⟨pb, 0, none⟩)) ∧ Zu W u' H pb m pu0 ∧ Below u.heap.size u u' ∧ ∀ y ∈ H, u.heap.size ≤ y := by
  subst hm
  have HB := Lib.hid h
  have HN := Lib.hid (new_ok x)
  clear h
  go_enter Try.func11, Try.ntmps11
  go_wp2_with (first | (go_at_call 30; (with_reducible refine (HN.out u).mono ?_); rintro e u1 ⟨rfl, j1, j2⟩; have J1 := Lib.hid (And.intro j1 j2); clear j1 j2) | (go_at_call 30; (with_reducible refine (HN.out u1).mono ?_); rintro e u2 ⟨rfl, j1, j2⟩; have J2 := Lib.hid (And.intro j1 j2); clear j1 j2))
  go_ret
  obtain ⟨a0, ha0⟩ : ∃ a0, u.heap.size = a0 := ⟨_, rfl⟩
  obtain ⟨a1, ha1⟩ : ∃ a1, u1.heap.size = a1 := ⟨_, rfl⟩
  obtain ⟨a2, ha2⟩ : ∃ a2, u2.heap.size = a2 := ⟨_, rfl⟩
  have h1 := J1.out
  have h2 := J2.out
  rw [ha0] at h1
  rw [ha1] at h2
  have l1 := h1.1.lt
  have l2 := h2.1.lt
  rw [ha1] at l1
  rw [ha2] at l2
  try rw [ha0]
  try rw [ha1]
  try rw [ha2]
  have s2 : a1 ≤ a2 := by have := h2.2.size; omega
  obtain ⟨u3, hu3⟩ : ∃ u3, u2.alloc (.cells #[.pointer (some ⟨a0 + 1, 0, none⟩), .bool false, .bool false, .int .i64 0, .pointer (some ⟨a1 + 1, 0, none⟩), .bool false, .bool false, .int .i64 0, .bool false] 51) = u3 := ⟨_, rfl⟩
  rw [hu3]
  have k3 : Ke [] u2 u3 := by rw [← hu3]; exact (Ke.refl [] u2).alloc _
  have b3 : Bk u3 a2 51 (zucells pu0 (a0 + 1) (a1 + 1)) := by rw [← hu3]; exact Bk.here ha2.symm
  have s3 : u3.heap.size = a2 + 1 := by rw [← hu3, World.size_alloc, ha2]
  have hbu : Below u.heap.size u u3 := ((h1.2.trans h2.2).trans k3).below (Nat.le_refl _) (by simp)
  have hmem : ∀ y ∈ [a2, a0 + 1, a0, a1 + 1, a1], a0 ≤ y := by
    intro y hy
    simp only [List.mem_cons, List.not_mem_nil, or_false] at hy
    rcases hy with rfl | rfl | rfl | rfl | rfl <;> omega
  have hsz : ∀ y ∈ [a2, a0 + 1, a0, a1 + 1, a1], y < u3.heap.size := by
    intro y hy
    simp only [List.mem_cons, List.not_mem_nil, or_false] at hy
    rcases hy with rfl | rfl | rfl | rfl | rfl <;> omega
  have hW := HB.out.size
  rw [ha0] at hW
  exact ⟨[a2, a0 + 1, a0, a1 + 1, a1], a2, rfl, ⟨⟨a0 + 1, a0, a1 + 1, a1, mostM x, mostM x, b3, (h1.1.ke h2.2 (by simp) (by simp)).ke k3 (by simp) (by simp), h2.1.ke k3 (by simp) (by simp), fun _ => ⟨rfl, rfl⟩, ⟨by omega, by omega, by omega, by omega, by omega, by omega, by omega, by omega⟩, by simp, by simp, by simp, by simp, by simp⟩, HB.out.trans (hbu.mono HB.out.size), fun y hy => Nat.le_trans hW (hmem y hy), hsz⟩, by rw [← ha0]; exact hbu, hmem⟩
set_option maxRecDepth 100000 in
set_option maxHeartbeats 4000000 in
theorem y_in (h : Zu W u H pb m p) (hg : Gu m p) (hm : m ≤ 65536) (s : Int) (A : Option Addr) (n c : Nat) (l : List UInt8) (hl : l.length = n) (hc : n ≤ c) (hcm : c ≤ 9223372036854775807) (hn : A = none → n = 0 ∧ c = 0) (hR : Rf u H A l) (r : Nat) (p2 : Pu) (hE : inP m p s l = (r, p2)) :
    Calls Try.prog 20 #[.pointer (some ⟨pb, 0, none⟩), .int .i64 s, .slice A n c] u fun e u' => ∃ H', e = .returned (.int .i64 (r : Int)) ∧ Zu W u' H' pb m p2 ∧ Sp u u' H H' := by
  have HOO := Lib.hid (z_open h)
  obtain ⟨r0, g0, r1, g1, m0, m1, h1, h2, h3, h4, h5, h6⟩ := h.ex
  obtain ⟨⟨aq, ae, ao, am⟩, ⟨bq, be, bo, bm⟩, br⟩ := p
  have HD := Lib.hid h
  have d0 : u.cell? ⟨pb, 0, none⟩ = some (.pointer (some ⟨r0, 0, none⟩)) := h1.cell 0
  have d4 : u.cell? ⟨pb, 4, none⟩ = some (.pointer (some ⟨r1, 0, none⟩)) := h1.cell 4
  have HB := Lib.hid h1
  have HRR := Lib.hid (And.intro h2 h3)
  have hM := h4
  have HL := Lib.hid (And.intro h5 h6)
  have HA0 := Lib.hid (add_ok r0 g0 m0 A n c l aq u h2 hl hc hcm (hR.less (fun y hy => by simp only [List.mem_cons, List.not_mem_nil, or_false] at hy; rcases hy with rfl | rfl; exact h6.2.1; exact h6.2.2.1)))
  have HA1 := Lib.hid (add_ok r1 g1 m1 A n c l bq u h3 hl hc hcm (hR.less (fun y hy => by simp only [List.mem_cons, List.not_mem_nil, or_false] at hy; rcases hy with rfl | rfl; exact h6.2.2.2.1; exact h6.2.2.2.2)))
  clear hR hc hcm hn hg hm
  clear h h1 h2 h3 h4 h5 h6
  subst hl
  by_cases e0 : s = 0
  · subst e0
    cases br with
    | true =>
      have HO := Lib.hid (HOO.out 0 false rfl)
      injection hE with e2 e3
      subst e2; subst e3
      clear hM
      go_enter Try.func20, Try.ntmps20
      go_wp2_with (go_at_call 36; (with_reducible refine HO.out.mono ?_); rintro e w2 ⟨rfl, hw⟩; rw [hw]; clear hw)
      go_ret
      first | exact ⟨H, rfl, HD.out, Sp.refl _ _⟩ | exact ⟨rfl, H, HD.out, Sp.refl _ _⟩
    | false =>
      cases ae with
      | true =>
        have HO := Lib.hid (HOO.out 0 false rfl)
        injection hE with e2 e3
        subst e2; subst e3
        clear hM
        go_enter Try.func20, Try.ntmps20
        go_wp2_with (go_at_call 36; (with_reducible refine HO.out.mono ?_); rintro e w2 ⟨rfl, hw⟩; rw [hw]; clear hw)
        go_ret
        first | exact ⟨H, rfl, HD.out, Sp.refl _ _⟩ | exact ⟨rfl, H, HD.out, Sp.refl _ _⟩
      | false =>
        have HO := Lib.hid (HOO.out 0 true rfl)
        obtain ⟨e6, e7⟩ := hM rfl
        rw [e6] at HA0
        injection hE with e2 e3
        have HRES := Lib.hid (And.intro e2 e3)
        obtain ⟨X, hX⟩ : ∃ X, min l.length (m - aq.length) = X := ⟨_, rfl⟩
        obtain ⟨Q, hQ⟩ : ∃ Q, aq ++ l.take (m - aq.length) = Q := ⟨_, rfl⟩
        rw [hX, hQ] at HA0
        have HXQ := Lib.hid (And.intro hX hQ)
        have HEE := Lib.hid (And.intro e6 e7)
        clear e2 e3 e6 e7 hX hQ hM HA1
        go_enter Try.func20, Try.ntmps20
        go_wp2_with (first | (go_at_call 36; (with_reducible refine HO.out.mono ?_); rintro e w2 ⟨rfl, hw⟩; rw [hw]; clear hw) | (go_at_call 37; (with_reducible refine HA0.out.mono ?_); rintro e u3 ⟨rfl, j1, j2⟩; have R3 := Lib.hid j1; have K3 := Lib.hid j2; clear j1 j2))
        go_ret
        have D := HL.out.1
        have hex := HXQ.out
        have hr : min l.length (m - aq.length) = r ∧ (⟨⟨aq ++ l.take (m - aq.length), false, ao, am⟩, ⟨bq, be, bo, bm⟩, false⟩ : Pu) = p2 := HRES.out
        rw [hex.1] at hr
        have hp2 := hr.2
        have hr1 := hr.1
        subst hr1
        subst hp2
        have kk : Ke H u u3 := K3.out.more (fun y hy => by
          simp only [List.mem_cons, List.not_mem_nil, or_false] at hy
          rcases hy with rfl | rfl
          · exact HL.out.2.2.1
          · exact HL.out.2.2.2.1)
        have hb3 := HB.out.ke K3.out (by simp only [List.mem_cons, List.not_mem_nil, or_false, not_or]; exact ⟨D.a, D.b⟩)
        have ho := HRR.out.2.ke K3.out (by simp only [List.mem_cons, List.not_mem_nil, or_false, not_or]; exact ⟨D.e.symm, D.g.symm⟩) (by simp only [List.mem_cons, List.not_mem_nil, or_false, not_or]; exact ⟨D.f.symm, D.h.symm⟩)
        have R3o := R3.out
        rw [← hex.2] at R3o
        have hfin := HD.out.turn (p' := ⟨⟨aq ++ l.take (m - aq.length), false, ao, am⟩, ⟨bq, be, bo, bm⟩, false⟩) (Sp.of kk) HL.out.2 (fun y hy => Nat.lt_of_lt_of_le (HD.out.hi y hy) kk.size) hb3 R3o ho (fun _ => ⟨rfl, HEE.out.2⟩) D
        first | exact ⟨H, rfl, hfin, Sp.of kk⟩ | exact ⟨rfl, H, hfin, Sp.of kk⟩
  · by_cases e1 : s = 1
    · subst e1
      cases br with
      | true =>
        have HO := Lib.hid (HOO.out 1 false rfl)
        injection hE with e2 e3
        subst e2; subst e3
        clear hM
        go_enter Try.func20, Try.ntmps20
        go_wp2_with (go_at_call 36; (with_reducible refine HO.out.mono ?_); rintro e w2 ⟨rfl, hw⟩; rw [hw]; clear hw)
        go_ret
        first | exact ⟨H, rfl, HD.out, Sp.refl _ _⟩ | exact ⟨rfl, H, HD.out, Sp.refl _ _⟩
      | false =>
        cases be with
        | true =>
          have HO := Lib.hid (HOO.out 1 false rfl)
          injection hE with e2 e3
          subst e2; subst e3
          clear hM
          go_enter Try.func20, Try.ntmps20
          go_wp2_with (go_at_call 36; (with_reducible refine HO.out.mono ?_); rintro e w2 ⟨rfl, hw⟩; rw [hw]; clear hw)
          go_ret
          first | exact ⟨H, rfl, HD.out, Sp.refl _ _⟩ | exact ⟨rfl, H, HD.out, Sp.refl _ _⟩
        | false =>
          have HO := Lib.hid (HOO.out 1 true rfl)
          obtain ⟨e6, e7⟩ := hM rfl
          rw [e7] at HA1
          injection hE with e2 e3
          have HRES := Lib.hid (And.intro e2 e3)
          obtain ⟨X, hX⟩ : ∃ X, min l.length (m - bq.length) = X := ⟨_, rfl⟩
          obtain ⟨Q, hQ⟩ : ∃ Q, bq ++ l.take (m - bq.length) = Q := ⟨_, rfl⟩
          rw [hX, hQ] at HA1
          have HXQ := Lib.hid (And.intro hX hQ)
          have HEE := Lib.hid (And.intro e6 e7)
          clear e2 e3 e6 e7 hX hQ hM HA0
          go_enter Try.func20, Try.ntmps20
          go_wp2_with (first | (go_at_call 36; (with_reducible refine HO.out.mono ?_); rintro e w2 ⟨rfl, hw⟩; rw [hw]; clear hw) | (go_at_call 37; (with_reducible refine HA1.out.mono ?_); rintro e u3 ⟨rfl, j1, j2⟩; have R3 := Lib.hid j1; have K3 := Lib.hid j2; clear j1 j2))
          go_ret
          have D := HL.out.1
          have hex := HXQ.out
          have hr : min l.length (m - bq.length) = r ∧ (⟨⟨aq, ae, ao, am⟩, ⟨bq ++ l.take (m - bq.length), false, bo, bm⟩, false⟩ : Pu) = p2 := HRES.out
          rw [hex.1] at hr
          have hp2 := hr.2
          have hr1 := hr.1
          subst hr1
          subst hp2
          have kk : Ke H u u3 := K3.out.more (fun y hy => by
            simp only [List.mem_cons, List.not_mem_nil, or_false] at hy
            rcases hy with rfl | rfl
            · exact HL.out.2.2.2.2.1
            · exact HL.out.2.2.2.2.2)
          have hb3 := HB.out.ke K3.out (by simp only [List.mem_cons, List.not_mem_nil, or_false, not_or]; exact ⟨D.c, D.d⟩)
          have ho := HRR.out.1.ke K3.out (by simp only [List.mem_cons, List.not_mem_nil, or_false, not_or]; exact ⟨D.e, D.f⟩) (by simp only [List.mem_cons, List.not_mem_nil, or_false, not_or]; exact ⟨D.g, D.h⟩)
          have R3o := R3.out
          rw [← hex.2] at R3o
          have hfin := HD.out.turn (p' := ⟨⟨aq, ae, ao, am⟩, ⟨bq ++ l.take (m - bq.length), false, bo, bm⟩, false⟩) (Sp.of kk) HL.out.2 (fun y hy => Nat.lt_of_lt_of_le (HD.out.hi y hy) kk.size) hb3 ho R3o (fun _ => ⟨HEE.out.1, rfl⟩) D
          first | exact ⟨H, rfl, hfin, Sp.of kk⟩ | exact ⟨rfl, H, hfin, Sp.of kk⟩
    · have HO := Lib.hid (HOO.out s false (by unfold opP; rw [zsd_n e0 e1]))
      unfold inP at hE
      rw [zsd_n e0 e1] at hE
      injection hE with e2 e3
      subst e2; subst e3
      clear e0 e1 hM
      go_enter Try.func20, Try.ntmps20
      go_wp2_with (go_at_call 36; (with_reducible refine HO.out.mono ?_); rintro e w2 ⟨rfl, hw⟩; rw [hw]; clear hw)
      go_ret
      first | exact ⟨H, rfl, HD.out, Sp.refl _ _⟩ | exact ⟨rfl, H, HD.out, Sp.refl _ _⟩
/-- Of a pump that is being broken: so many of its ways are empty. -/
def brI (p : Pu) (i : Nat) : Pu := ⟨if 0 < i then { p.a with q := [] } else p.a, if 1 < i then { p.b with q := [] } else p.b, true⟩
theorem brI_2 (p : Pu) : brI p 2 = brP p := rfl
set_option maxRecDepth 100000 in
set_option maxHeartbeats 4000000 in
theorem y_brk (h : Zu W u H pb m p) (hg : Gu m p) (hm : m ≤ 65536) :
    Calls Try.prog 18 #[.pointer (some ⟨pb, 0, none⟩)] u fun e u' => ∃ H', e = .returned (.tuple #[]) ∧ Zu W u' H' pb m (brP p) ∧ Sp u u' H H' := by
  have HN := Lib.hid (new_ok 0)
  have HD0 := Lib.hid h
  obtain ⟨r0, g0, r1, g1, m0, m1, h1, h2, h3, h4, h5, h6⟩ := h.ex
  have f8 := h1.frozen 8
  have d8 : u.cell? ⟨pb, 8, none⟩ = some (.bool p.br) := h1.cell 8
  obtain ⟨u2, hu2⟩ : ∃ u2, u.setCell ⟨pb, 8, none⟩ (.bool true) = u2 := ⟨_, rfl⟩
  have k2 : Ke [pb] u u2 := by rw [← hu2]; exact (Ke.refl [pb] u).set (p := ⟨pb, 8, none⟩) (by simp) _
  have kk : Ke H u u2 := k2.more (fun y hy => by rw [List.mem_singleton.1 hy]; exact h6.1)
  have hfin : Zu W u2 H pb m (brI p 0) := h.turn (Sp.of kk) h6 (fun y hy => Nat.lt_of_lt_of_le (h.hi y hy) kk.size) (show Bk u2 pb 51 (zucells (brI p 0) r0 r1) by rw [← hu2]; exact h1.set 8 _) (h2.ke k2 (by simpa using h5.a.symm) (by simpa using h5.b.symm)) (h3.ke k2 (by simpa using h5.c.symm) (by simpa using h5.d.symm)) (fun e => by cases e) h5
  have H0 := Lib.hid (And.intro hfin (Sp.of kk))
  clear hfin kk k2 hg hm
  clear h h1 h2 h3 h4 h5 h6
  go_enter Try.func18, Try.ntmps18
  go_upto_region 1 with fail
  try rw [hu2]
  clear hu2 f8 d8
  go_wp2_with fail
  go_loopw [6] (fun v6 wr => ∃ (i : Nat) (G : List Nat), i ≤ 2 ∧ v6 = .int .i64 (i : Int) ∧ Hid (Zu W wr G pb m (brI p i) ∧ Sp u wr H G)) (fun v6 _ => 2 - (intOf v6).toNat)
  case atStart => exact ⟨0, H, by omega, rfl, Lib.hid H0.out⟩
  case round =>
    obtain ⟨i, G, hi, rfl, HZ⟩ := hrel
    by_cases hi2 : i = 2
    · subst hi2
      go_wp2_with fail
      go_end0
      first | exact ⟨G, rfl, HZ.out.1, HZ.out.2⟩ | exact ⟨rfl, G, HZ.out.1, HZ.out.2⟩ | exact ⟨G, HZ.out.1, HZ.out.2⟩
    · by_cases hi0 : i = 0
      · subst hi0
        have hZ := HZ.out.1
        obtain ⟨r0, g0, r1, g1, m0, m1, h1, h2, h3, h4, h5, h6⟩ := hZ.ex
        have B1 := Lib.hid h1
        have R1 := Lib.hid (And.intro h2 h3)
        have HL := Lib.hid (And.intro h5 h6)
        have f1 : ∀ v, Ke [] wr v → v.frozen? ⟨pb, 0, none⟩ = false := fun v k => (B1.out.ke k (by simp)).frozen 0
        have F1 := Lib.hid f1
        clear f1 hZ h1 h2 h3 h4 h5 h6
        go_upto_region 4 with fail
        go_region_with (go_at_call 30; (with_reducible refine (HN.out _).mono ?_); rintro e u4 ⟨rfl, j1, j2⟩; have R4 := Lib.hid j1; have K4 := Lib.hid (show Ke [] wr u4 from ((Ke.refl [] wr).drew).trans j2); have g4 := F1.out u4 K4.out; have d4 : u4.cell? ⟨pb, 0, none⟩ = some (.pointer (some ⟨r0, 0, none⟩)) := (B1.out.ke K4.out (by simp)).cell 0; clear j1 j2)
        go_wp2_with fail
        go_roundw
        case rel =>
          have e3 : (wr.drew).heap.size = wr.heap.size := rfl
          have r4 := R4.out
          try rw [e3] at r4
          try rw [e3]
          obtain ⟨a, ha⟩ : ∃ a, wr.heap.size = a := ⟨_, rfl⟩
          rw [ha] at r4
          try rw [ha]
          have hlt := r4.lt
          have D := HL.out.1
          have hG := HZ.out.1.hi
          rw [ha] at hG
          have hp := hG _ HL.out.2.1
          have hr0 := hG _ HL.out.2.2.1
          have hg0 := hG _ HL.out.2.2.2.1
          have hr1 := hG _ HL.out.2.2.2.2.1
          have hg1 := hG _ HL.out.2.2.2.2.2
          obtain ⟨u5, hu5⟩ : ∃ u5, u4.setCell ⟨pb, 0, none⟩ (.pointer (some ⟨a + 1, 0, none⟩)) = u5 := ⟨_, rfl⟩
          try rw [hu5]
          have k5 : Ke [pb] u4 u5 := by rw [← hu5]; exact (Ke.refl [pb] u4).set (p := ⟨pb, 0, none⟩) (by simp) _
          have k45 : Ke [pb] wr u5 := (K4.out.more (by simp)).trans k5
          have kG : Ke G wr u5 := k45.more (fun y hy => by rw [List.mem_singleton.1 hy]; exact HL.out.2.1)
          have b5 : Bk u5 pb 51 (zucells (brI p 1) (a + 1) r1) := by rw [← hu5]; exact (B1.out.ke K4.out (by simp)).set 0 _
          have n5 := r4.ke k5 (by simp; omega) (by simp; omega)
          have ho := R1.out.2.ke k45 (by simpa using D.c.symm) (by simpa using D.d.symm)
          have sp : Sp wr u5 G (a :: (a + 1) :: G) := ⟨kG, fun y hy => by
            simp only [List.mem_cons] at hy
            rcases hy with rfl | rfl | hy
            · exact .inr (by omega)
            · exact .inr (by omega)
            · exact .inl hy⟩
          have hz5 : ∀ y ∈ a :: (a + 1) :: G, y < u5.heap.size := fun y hy => by
            simp only [List.mem_cons] at hy
            have h9 := k5.size
            have h8 := kG.size
            rcases hy with rfl | rfl | hy
            · omega
            · omega
            · have := HZ.out.1.hi y hy; omega
          have hfin : Zu W u5 (a :: (a + 1) :: G) pb m (brI p 1) := HZ.out.1.turn sp ⟨by simp [HL.out.2.1], by simp, by simp, by simp [HL.out.2.2.2.2.1], by simp [HL.out.2.2.2.2.2]⟩ hz5 b5 n5 ho (fun e => by cases e) ⟨by omega, by omega, D.c, D.d, by omega, by omega, by omega, by omega⟩
          exact ⟨1, a :: (a + 1) :: G, by omega, by first | rfl | go_num, Lib.hid ⟨hfin, HZ.out.2.trans sp⟩⟩
        case measure => simp [intOf]
      · obtain rfl : i = 1 := by omega
        have hZ := HZ.out.1
        obtain ⟨r0, g0, r1, g1, m0, m1, h1, h2, h3, h4, h5, h6⟩ := hZ.ex
        have B1 := Lib.hid h1
        have R1 := Lib.hid (And.intro h2 h3)
        have HL := Lib.hid (And.intro h5 h6)
        have f1 : ∀ v, Ke [] wr v → v.frozen? ⟨pb, 4, none⟩ = false := fun v k => (B1.out.ke k (by simp)).frozen 4
        have F1 := Lib.hid f1
        clear f1 hZ h1 h2 h3 h4 h5 h6
        go_upto_region 4 with fail
        go_region_with (go_at_call 30; (with_reducible refine (HN.out _).mono ?_); rintro e u4 ⟨rfl, j1, j2⟩; have R4 := Lib.hid j1; have K4 := Lib.hid (show Ke [] wr u4 from ((Ke.refl [] wr).drew).trans j2); have g4 := F1.out u4 K4.out; have d4 : u4.cell? ⟨pb, 4, none⟩ = some (.pointer (some ⟨r1, 0, none⟩)) := (B1.out.ke K4.out (by simp)).cell 4; clear j1 j2)
        go_wp2_with fail
        go_roundw
        case rel =>
          have e3 : (wr.drew).heap.size = wr.heap.size := rfl
          have r4 := R4.out
          try rw [e3] at r4
          try rw [e3]
          obtain ⟨a, ha⟩ : ∃ a, wr.heap.size = a := ⟨_, rfl⟩
          rw [ha] at r4
          try rw [ha]
          have hlt := r4.lt
          have D := HL.out.1
          have hG := HZ.out.1.hi
          rw [ha] at hG
          have hp := hG _ HL.out.2.1
          have hr0 := hG _ HL.out.2.2.1
          have hg0 := hG _ HL.out.2.2.2.1
          have hr1 := hG _ HL.out.2.2.2.2.1
          have hg1 := hG _ HL.out.2.2.2.2.2
          obtain ⟨u5, hu5⟩ : ∃ u5, u4.setCell ⟨pb, 4, none⟩ (.pointer (some ⟨a + 1, 0, none⟩)) = u5 := ⟨_, rfl⟩
          try rw [hu5]
          have k5 : Ke [pb] u4 u5 := by rw [← hu5]; exact (Ke.refl [pb] u4).set (p := ⟨pb, 4, none⟩) (by simp) _
          have k45 : Ke [pb] wr u5 := (K4.out.more (by simp)).trans k5
          have kG : Ke G wr u5 := k45.more (fun y hy => by rw [List.mem_singleton.1 hy]; exact HL.out.2.1)
          have b5 : Bk u5 pb 51 (zucells (brI p 2) r0 (a + 1)) := by rw [← hu5]; exact (B1.out.ke K4.out (by simp)).set 4 _
          have n5 := r4.ke k5 (by simp; omega) (by simp; omega)
          have ho := R1.out.1.ke k45 (by simpa using D.a.symm) (by simpa using D.b.symm)
          have sp : Sp wr u5 G (a :: (a + 1) :: G) := ⟨kG, fun y hy => by
            simp only [List.mem_cons] at hy
            rcases hy with rfl | rfl | hy
            · exact .inr (by omega)
            · exact .inr (by omega)
            · exact .inl hy⟩
          have hz5 : ∀ y ∈ a :: (a + 1) :: G, y < u5.heap.size := fun y hy => by
            simp only [List.mem_cons] at hy
            have h9 := k5.size
            have h8 := kG.size
            rcases hy with rfl | rfl | hy
            · omega
            · omega
            · have := HZ.out.1.hi y hy; omega
          have hfin : Zu W u5 (a :: (a + 1) :: G) pb m (brI p 2) := HZ.out.1.turn sp ⟨by simp [HL.out.2.1], by simp [HL.out.2.2.1], by simp [HL.out.2.2.2.1], by simp, by simp⟩ hz5 b5 ho n5 (fun e => by cases e) ⟨D.a, D.b, by omega, by omega, by omega, by omega, by omega, by omega⟩
          exact ⟨2, a :: (a + 1) :: G, by omega, by first | rfl | go_num, Lib.hid ⟨hfin, HZ.out.2.trans sp⟩⟩
        case measure => simp [intOf]
end
end Go.Proofs.Ytpomeimjgbblmaa
