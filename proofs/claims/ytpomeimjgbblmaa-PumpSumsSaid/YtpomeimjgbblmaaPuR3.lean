/- The document's own pump: New, In, Break, Out: their contracts. (Written by gen_pur3.py.) -/
import Derived.Test.YtpomeimjgbblmaaPuR2
namespace Go.Proofs.Ytpomeimjgbblmaa
set_option linter.unusedVariables false
set_option maxRecDepth 100000
set_option linter.unusedSimpArgs false
open Go.RowKit

section
variable {W u u' : World} {H : List Nat} {rb m : Nat} {p : Pu}
set_option maxRecDepth 100000 in
set_option maxHeartbeats 2000000 in
theorem r_new (x : Int) (m : Nat) (hm : mostM x = m) (h : Below W.heap.size W u) : Calls Try.prog 12 #[.int .i64 x] u fun e u' => ∃ H rb, e = .returned (.pointer (some ⟨rb, 0, none⟩)) ∧ Du W u' H rb m pu0 ∧ Below u.heap.size u u' ∧ ∀ y ∈ H, u.heap.size ≤ y := by
  subst hm
  have HB := Lib.hid h
  obtain ⟨rb, hrb⟩ : ∃ rb, u.heap.size = rb := ⟨_, rfl⟩
  obtain ⟨u1, hu1⟩ : ∃ u1, u.alloc (.cells #[.pointer none, .bool false, .bool false, .int .i64 0, .pointer none, .bool false, .bool false, .int .i64 0, .bool false] 57) = u1 := ⟨_, rfl⟩
  have B1 := Lib.hid (show Bk u1 rb 57 #[.pointer none, .bool false, .bool false, .int .i64 0, .pointer none, .bool false, .bool false, .int .i64 0, .bool false] by rw [← hu1, ← hrb]; exact Bk.new _ _ _)
  have K1 := Lib.hid (show Ke [] u u1 by rw [← hu1]; exact (Ke.refl [] u).alloc _)
  have S1 := Lib.hid (show u1.heap.size = rb + 1 by rw [← hu1, World.size_alloc, hrb])
  have HR := Lib.hid (fun v => rnew_ok x v)
  clear h
  go_enter Try.func12, Try.ntmps12
  go_upto_region 2 with fail
  try rw [hu1]
  try rw [hrb]
  have f1 : ∀ v, Ke [] u1 v → v.frozen? ⟨rb, 0, none⟩ = false := fun v k => (B1.out.ke k (by simp)).frozen 0
  have F1 := Lib.hid f1
  clear f1 hu1
  go_region_with (go_at_call 31; (with_reducible refine (HR.out _).mono ?_); rintro e u2 ⟨rfl, h1, h2⟩; have R2 := Lib.hid h1; have K2 := Lib.hid (show Ke [] u1 u2 from ((Ke.refl [] u1).drew).trans h2); have f2 := F1.out u2 K2.out; have d2 : u2.cell? ⟨rb, 0, none⟩ = some (.pointer none) := (B1.out.ke K2.out (by simp)).cell 0; clear h1 h2)
  obtain ⟨s0, hs0⟩ : ∃ s0, u1.heap.size = s0 := ⟨_, rfl⟩
  obtain ⟨u3, hu3⟩ : ∃ u3, u2.setCell ⟨rb, 0, none⟩ (.pointer (some ⟨s0, 0, none⟩)) = u3 := ⟨_, rfl⟩
  have R2b := Lib.hid (show Rs u2 s0 (mostM x) [] none 0 by rw [← hs0]; exact R2.out)
  have SS := Lib.hid (show rb < s0 by rw [← hs0, S1.out]; omega)
  have B3 := Lib.hid (show Bk u3 rb 57 #[.pointer (some ⟨s0, 0, none⟩), .bool false, .bool false, .int .i64 0, .pointer none, .bool false, .bool false, .int .i64 0, .bool false] by rw [← hu3]; exact (B1.out.ke K2.out (by simp)).set 0 _)
  have K3 := Lib.hid (show Ke [rb] u2 u3 by rw [← hu3]; exact (Ke.refl [rb] u2).set (p := ⟨rb, 0, none⟩) (by simp) _)
  have R3 := Lib.hid (R2b.out.ke K3.out (fun y hy => by rw [List.mem_singleton.1 hy]; exact SS.out))
  have F3 := Lib.hid (fun v (k : Ke [] u3 v) => (B3.out.ke k (by simp)).frozen 4)
  try rw [hs0]
  try rw [hu3]
  clear hu3 f2 d2
  go_upto_region 3 with fail
  go_region_with (go_at_call 31; (with_reducible refine (HR.out _).mono ?_); rintro e u4 ⟨rfl, h1, h2⟩; have R4 := Lib.hid h1; have K4 := Lib.hid (show Ke [] u3 u4 from ((Ke.refl [] u3).drew).trans h2); have f4 := F3.out u4 K4.out; have d4 : u4.cell? ⟨rb, 4, none⟩ = some (.pointer none) := (B3.out.ke K4.out (by simp)).cell 4; clear h1 h2)
  go_wp2
  go_ret
  have e3 : (u3.drew).heap.size = u3.heap.size := rfl
  have h5 : s0 < u3.heap.size := R3.out.bk.lt
  have kx : Ke [rb] u4 (u4.setCell ⟨rb, 4, none⟩ (.pointer (some ⟨u3.heap.size, 0, none⟩))) := (Ke.refl [rb] u4).set (p := ⟨rb, 4, none⟩) (by simp) _
  have hbu : Below u.heap.size u (u4.setCell ⟨rb, 4, none⟩ (.pointer (some ⟨u3.heap.size, 0, none⟩))) :=
    ((((K1.out.more (L' := [rb]) (by simp)).trans (K2.out.more (by simp))).trans K3.out).trans ((K4.out.more (by simp)).trans kx)).below (Nat.le_refl _) (fun y hy => by rw [List.mem_singleton.1 hy, ← hrb]; exact Nat.le_refl _)
  have hmem : ∀ y ∈ [rb, s0, u3.heap.size], u.heap.size ≤ y := by
    intro y hy
    simp only [List.mem_cons, List.not_mem_nil, or_false] at hy
    have := SS.out
    rcases hy with rfl | rfl | rfl <;> omega
  have hsz : ∀ y ∈ [rb, s0, u3.heap.size], y < (u4.setCell ⟨rb, 4, none⟩ (.pointer (some ⟨u3.heap.size, 0, none⟩))).heap.size := by
    intro y hy
    have h6 := R4.out.bk.lt
    have h7 := kx.size
    rw [e3] at h6
    simp only [List.mem_cons, List.not_mem_nil, or_false] at hy
    have := SS.out
    rcases hy with rfl | rfl | rfl <;> omega
  exact ⟨[rb, s0, u3.heap.size], rb, rfl, ⟨⟨s0, u3.heap.size, none, 0, none, 0, (B3.out.ke K4.out (by simp)).set 4 _, (R3.out.ke K4.out (by simp)).ke kx (fun y hy => by rw [List.mem_singleton.1 hy]; exact SS.out), R4.out.ke kx (fun y hy => by rw [List.mem_singleton.1 hy]; exact Nat.lt_trans SS.out h5), SS.out, h5, ⟨by simp, by simp, by simp⟩, (fun a ha => by cases ha), (fun a ha => by cases ha)⟩, HB.out.trans (hbu.mono HB.out.size), fun y hy => Nat.le_trans HB.out.size (hmem y hy), hsz⟩, hbu, hmem⟩
set_option maxRecDepth 100000 in
set_option maxHeartbeats 4000000 in
theorem r_in (h : Du W u H rb m p) (s : Int) (A : Option Addr) (n c : Nat) (l : List UInt8) (hl : l.length = n) (hc : n ≤ c) (hcm : c ≤ 9223372036854775807) (hn : A = none → n = 0 ∧ c = 0) (hR : Rf u H A l) (r : Nat) (p2 : Pu) (hE : inP m p s l = (r, p2)) :
    Calls Try.prog 21 #[.pointer (some ⟨rb, 0, none⟩), .int .i64 s, .slice A n c] u fun e u' => ∃ H', e = .returned (.int .i64 (r : Int)) ∧ Du W u' H' rb m p2 ∧ Sp u u' H H' := by
  obtain ⟨s0, s1, A0, c0, A1, c1, h1, h2, h3, h4, h5, h6⟩ := h.ex
  obtain ⟨⟨aq, ae, ao, am⟩, ⟨bq, be, bo, bm⟩, br⟩ := p
  have HD := Lib.hid h
  have d0 : u.cell? ⟨rb, 0, none⟩ = some (.pointer (some ⟨s0, 0, none⟩)) := h1.cell 0
  have d1 : u.cell? ⟨rb, 1, none⟩ = some (.bool ae) := h1.cell 1
  have d4 : u.cell? ⟨rb, 4, none⟩ = some (.pointer (some ⟨s1, 0, none⟩)) := h1.cell 4
  have d5 : u.cell? ⟨rb, 5, none⟩ = some (.bool be) := h1.cell 5
  have d8 : u.cell? ⟨rb, 8, none⟩ = some (.bool br) := h1.cell 8
  have HB := Lib.hid h1
  have HRR := Lib.hid (And.intro h2 h3)
  have HL := Lib.hid (And.intro h4 (And.intro h5 h6))
  have HA0 := Lib.hid (radd_okF s0 m A n c l aq A0 c0 u h2 hl hc hcm hn (hR.less (by simpa using h6.1.2.1)) _ _ _ rfl rfl rfl)
  have HA1 := Lib.hid (radd_okF s1 m A n c l bq A1 c1 u h3 hl hc hcm hn (hR.less (by simpa using h6.1.2.2)) _ _ _ rfl rfl rfl)
  clear h h1 h2 h3 h4 h5 h6 hR hc hcm hn
  subst hl
  by_cases e0 : s = 0
  · subst e0
    have HS := Lib.hid rside_0
    cases br with
    | true =>
      injection hE with e2 e3
      subst e2; subst e3
      go_enter Try.func21, Try.ntmps21
      go_wp2_with (go_at_call 34; (with_reducible refine (HS.out _).mono ?_); rintro e w2 ⟨rfl, hw⟩; rw [hw]; clear hw)
      go_ret
      first | exact ⟨H, rfl, HD.out, Sp.refl _ _⟩ | exact ⟨rfl, H, HD.out, Sp.refl _ _⟩
    | false =>
      cases ae with
      | true =>
        injection hE with e2 e3
        subst e2; subst e3
        go_enter Try.func21, Try.ntmps21
        go_wp2_with (go_at_call 34; (with_reducible refine (HS.out _).mono ?_); rintro e w2 ⟨rfl, hw⟩; rw [hw]; clear hw)
        go_ret
        first | exact ⟨H, rfl, HD.out, Sp.refl _ _⟩ | exact ⟨rfl, H, HD.out, Sp.refl _ _⟩
      | false =>
        injection hE with e2 e3
        subst e2; subst e3
        obtain ⟨z, hz⟩ : ∃ z, m - aq.length = z := ⟨_, rfl⟩
        obtain ⟨x, hx⟩ : ∃ x, min l.length z = x := ⟨_, rfl⟩
        have HZ := Lib.hid hz
        have HX := Lib.hid hx
        have HA := Lib.hid (show Calls Try.prog 38 #[.pointer (some ⟨s0, 0, none⟩), .slice A l.length c] u fun e u' => RaddPF s0 m x (aq ++ l.take z) u e u' by rw [← hx, ← hz]; exact HA0.out)
        clear hz hx HA0 HA1
        go_enter Try.func21, Try.ntmps21
        go_wp2_with (first | (go_at_call 34; (with_reducible refine (HS.out _).mono ?_); rintro e w2 ⟨rfl, hw⟩; rw [hw]; clear hw) | (go_at_call 38; (with_reducible refine HA.out.mono ?_); rintro e w3 ⟨A4, c4, rfl, j1, j2, j3⟩; have R3 := Lib.hid j1; have K3 := Lib.hid j2; have F3 := Lib.hid j3; clear j1 j2 j3))
        go_ret
        have kk : Ke H u w3 := K3.out.more (fun y hy => by rw [List.mem_singleton.1 hy]; exact HL.out.2.2.1.2.1)
        have sp : Sp u w3 H (blkA A4 ++ H) := ⟨kk, fun y hy => by
          rcases List.mem_append.1 hy with e | e
          · obtain ⟨a, ha, e⟩ := mem_blkA.1 e
            exact .inr (by rw [← e]; exact (F3.out a ha).1)
          · exact .inl e⟩
        have hz3 : ∀ y ∈ blkA A4 ++ H, y < w3.heap.size := fun y hy => by
          rcases List.mem_append.1 hy with e | e
          · obtain ⟨a, ha, e⟩ := mem_blkA.1 e
            rw [← e]; exact (F3.out a ha).2
          · exact Nat.lt_of_lt_of_le (HD.out.hi y e) kk.size
        have he3 : (rb ∈ blkA A4 ++ H ∧ s0 ∈ blkA A4 ++ H ∧ s1 ∈ blkA A4 ++ H) := ⟨List.mem_append_right _ HL.out.2.2.1.1, List.mem_append_right _ HL.out.2.2.1.2.1, List.mem_append_right _ HL.out.2.2.1.2.2⟩
        have hA4 : ∀ a, A4 = some a → a.block ∈ blkA A4 ++ H := fun a ha => List.mem_append_left _ (mem_blkA.2 ⟨a, ha, rfl⟩)
        have hAo : ∀ a, A1 = some a → a.block ∈ blkA A4 ++ H := fun a ha => List.mem_append_right _ (HL.out.2.2.2.2 a ha)
        have hne : rb ∉ [s0] := by have h1 := HL.out.1; have h2 := HL.out.2.1; simp; omega
        have hfin := HD.out.turn (p' := ⟨⟨aq ++ l.take z, false, ao, am⟩, ⟨bq, be, bo, bm⟩, false⟩) sp ⟨he3, hA4, hAo⟩ hz3 (HB.out.ke K3.out hne) R3.out (HRR.out.2.ke K3.out (fun y hy => by rw [List.mem_singleton.1 hy]; exact HL.out.2.1)) HL.out.1 HL.out.2.1
        have h8 := HX.out
        have h9 := HZ.out
        subst h9
        subst h8
        first | exact ⟨blkA A4 ++ H, rfl, hfin, sp⟩ | exact ⟨rfl, blkA A4 ++ H, hfin, sp⟩
  · by_cases e1 : s = 1
    · subst e1
      have HS := Lib.hid rside_1
      cases br with
      | true =>
        injection hE with e2 e3
        subst e2; subst e3
        go_enter Try.func21, Try.ntmps21
        go_wp2_with (go_at_call 34; (with_reducible refine (HS.out _).mono ?_); rintro e w2 ⟨rfl, hw⟩; rw [hw]; clear hw)
        go_ret
        first | exact ⟨H, rfl, HD.out, Sp.refl _ _⟩ | exact ⟨rfl, H, HD.out, Sp.refl _ _⟩
      | false =>
        cases be with
        | true =>
          injection hE with e2 e3
          subst e2; subst e3
          go_enter Try.func21, Try.ntmps21
          go_wp2_with (go_at_call 34; (with_reducible refine (HS.out _).mono ?_); rintro e w2 ⟨rfl, hw⟩; rw [hw]; clear hw)
          go_ret
          first | exact ⟨H, rfl, HD.out, Sp.refl _ _⟩ | exact ⟨rfl, H, HD.out, Sp.refl _ _⟩
        | false =>
          injection hE with e2 e3
          subst e2; subst e3
          obtain ⟨z, hz⟩ : ∃ z, m - bq.length = z := ⟨_, rfl⟩
          obtain ⟨x, hx⟩ : ∃ x, min l.length z = x := ⟨_, rfl⟩
          have HZ := Lib.hid hz
          have HX := Lib.hid hx
          have HA := Lib.hid (show Calls Try.prog 38 #[.pointer (some ⟨s1, 0, none⟩), .slice A l.length c] u fun e u' => RaddPF s1 m x (bq ++ l.take z) u e u' by rw [← hx, ← hz]; exact HA1.out)
          clear hz hx HA0 HA1
          go_enter Try.func21, Try.ntmps21
          go_wp2_with (first | (go_at_call 34; (with_reducible refine (HS.out _).mono ?_); rintro e w2 ⟨rfl, hw⟩; rw [hw]; clear hw) | (go_at_call 38; (with_reducible refine HA.out.mono ?_); rintro e w3 ⟨A4, c4, rfl, j1, j2, j3⟩; have R3 := Lib.hid j1; have K3 := Lib.hid j2; have F3 := Lib.hid j3; clear j1 j2 j3))
          go_ret
          have kk : Ke H u w3 := K3.out.more (fun y hy => by rw [List.mem_singleton.1 hy]; exact HL.out.2.2.1.2.2)
          have sp : Sp u w3 H (blkA A4 ++ H) := ⟨kk, fun y hy => by
            rcases List.mem_append.1 hy with e | e
            · obtain ⟨a, ha, e⟩ := mem_blkA.1 e
              exact .inr (by rw [← e]; exact (F3.out a ha).1)
            · exact .inl e⟩
          have hz3 : ∀ y ∈ blkA A4 ++ H, y < w3.heap.size := fun y hy => by
            rcases List.mem_append.1 hy with e | e
            · obtain ⟨a, ha, e⟩ := mem_blkA.1 e
              rw [← e]; exact (F3.out a ha).2
            · exact Nat.lt_of_lt_of_le (HD.out.hi y e) kk.size
          have he3 : (rb ∈ blkA A4 ++ H ∧ s0 ∈ blkA A4 ++ H ∧ s1 ∈ blkA A4 ++ H) := ⟨List.mem_append_right _ HL.out.2.2.1.1, List.mem_append_right _ HL.out.2.2.1.2.1, List.mem_append_right _ HL.out.2.2.1.2.2⟩
          have hA4 : ∀ a, A4 = some a → a.block ∈ blkA A4 ++ H := fun a ha => List.mem_append_left _ (mem_blkA.2 ⟨a, ha, rfl⟩)
          have hAo : ∀ a, A0 = some a → a.block ∈ blkA A4 ++ H := fun a ha => List.mem_append_right _ (HL.out.2.2.2.1 a ha)
          have hne : rb ∉ [s1] := by have h1 := HL.out.1; have h2 := HL.out.2.1; simp; omega
          have hfin := HD.out.turn (p' := ⟨⟨aq, ae, ao, am⟩, ⟨bq ++ l.take z, false, bo, bm⟩, false⟩) sp ⟨he3, hAo, hA4⟩ hz3 (HB.out.ke K3.out hne) (HRR.out.1.off HRR.out.2.bk (Nat.ne_of_lt HL.out.2.1) K3.out) R3.out HL.out.1 HL.out.2.1
          have h8 := HX.out
          have h9 := HZ.out
          subst h9
          subst h8
          first | exact ⟨blkA A4 ++ H, rfl, hfin, sp⟩ | exact ⟨rfl, blkA A4 ++ H, hfin, sp⟩
    · have HS := Lib.hid (rside_n s e0 e1)
      unfold inP at hE
      rw [sdK_n e0 e1] at hE
      injection hE with e2 e3
      subst e2; subst e3
      clear e0 e1
      go_enter Try.func21, Try.ntmps21
      go_wp2_with (go_at_call 34; (with_reducible refine (HS.out _).mono ?_); rintro e w2 ⟨rfl, hw⟩; rw [hw]; clear hw)
      go_ret
      first | exact ⟨H, rfl, HD.out, Sp.refl _ _⟩ | exact ⟨rfl, H, HD.out, Sp.refl _ _⟩
set_option maxRecDepth 100000 in
set_option maxHeartbeats 4000000 in
theorem r_brk (h : Du W u H rb m p) : Calls Try.prog 19 #[.pointer (some ⟨rb, 0, none⟩)] u fun e u' => e = .returned (.tuple #[]) ∧ Du W u' H rb m (brP p) ∧ Sp u u' H H := by
  obtain ⟨s0, s1, A0, c0, A1, c1, h1, h2, h3, h4, h5, h6⟩ := h.ex
  obtain ⟨⟨aq, ae, ao, am⟩, ⟨bq, be, bo, bm⟩, br⟩ := p
  have HD := Lib.hid h
  have f8 := h1.frozen 8
  have d8 : u.cell? ⟨rb, 8, none⟩ = some (.bool br) := h1.cell 8
  have B2 := Lib.hid (show Bk (u.setCell ⟨rb, 8, none⟩ (.bool true)) rb 57 #[.pointer (some ⟨s0, 0, none⟩), .bool ae, .bool ao, .int .i64 am, .pointer (some ⟨s1, 0, none⟩), .bool be, .bool bo, .int .i64 bm, .bool true] from h1.set 8 _)
  obtain ⟨u2, hu2⟩ : ∃ u2, u.setCell ⟨rb, 8, none⟩ (.bool true) = u2 := ⟨_, rfl⟩
  have K2 := Lib.hid (show Ke [rb] u u2 by rw [← hu2]; exact (Ke.refl [rb] u).set (p := ⟨rb, 8, none⟩) (by simp) _)
  rw [hu2] at B2
  have R2 := Lib.hid (And.intro (h2.ke K2.out (fun y hy => by rw [List.mem_singleton.1 hy]; exact h4)) (h3.ke K2.out (fun y hy => by rw [List.mem_singleton.1 hy]; exact Nat.lt_trans h4 h5)))
  have d0 : u2.cell? ⟨rb, 0, none⟩ = some (.pointer (some ⟨s0, 0, none⟩)) := B2.out.cell 0
  have g0 : u2.frozen? ⟨s0, 0, none⟩ = false := R2.out.1.bk.frozen 0
  obtain ⟨k0, -, -⟩ := ref_cells R2.out.1.bk
  dsimp only at k0
  obtain ⟨u3, hu3⟩ : ∃ u3, u2.setCell ⟨s0, 0, none⟩ (.slice none 0 0) = u3 := ⟨_, rfl⟩
  have K3 := Lib.hid (show Ke [s0] u2 u3 by rw [← hu3]; exact (Ke.refl [s0] u2).set (p := ⟨s0, 0, none⟩) (by simp) _)
  have R3 := Lib.hid (show Rs u3 s0 m [] none 0 from ⟨by rw [← hu3]; exact ref_set R2.out.1.bk, .inl rfl, by simp, by omega, fun _ => ⟨rfl, rfl⟩, by simp, R2.out.1.most⟩)
  have R3b := Lib.hid (R2.out.2.ke K3.out (fun y hy => by rw [List.mem_singleton.1 hy]; exact h5))
  have B3 := Lib.hid (B2.out.ke K3.out (by simp; omega))
  have d4 : u3.cell? ⟨rb, 4, none⟩ = some (.pointer (some ⟨s1, 0, none⟩)) := B3.out.cell 4
  have g1 : u3.frozen? ⟨s1, 0, none⟩ = false := R3b.out.bk.frozen 0
  obtain ⟨k1, -, -⟩ := ref_cells R3b.out.bk
  dsimp only at k1
  have HL := Lib.hid (And.intro h4 (And.intro h5 h6))
  clear h h1 h2 h3 h4 h5 h6
  go_enter Try.func19, Try.ntmps19
  go_upto_region 1 with fail
  try rw [hu2]
  go_upto_region 2 with fail
  try rw [hu3]
  go_wp2_with fail
  go_end0
  have k4 : Ke [s1] u3 (u3.setCell ⟨s1, 0, none⟩ (.slice none 0 0)) := (Ke.refl [s1] u3).set (p := ⟨s1, 0, none⟩) (by simp) _
  have hH : ∀ y, y = rb ∨ y = s0 ∨ y = s1 → y ∈ H := fun y hy => by rcases hy with rfl | rfl | rfl; exact HL.out.2.2.1.1; exact HL.out.2.2.1.2.1; exact HL.out.2.2.1.2.2
  have kk : Ke H u (u3.setCell ⟨s1, 0, none⟩ (.slice none 0 0)) := ((K2.out.more (fun y hy => hH y (.inl (List.mem_singleton.1 hy)))).trans (K3.out.more (fun y hy => hH y (.inr (.inl (List.mem_singleton.1 hy)))))).trans (k4.more (fun y hy => hH y (.inr (.inr (List.mem_singleton.1 hy)))))
  exact ⟨rfl, HD.out.turn (A0 := none) (A1 := none) (Sp.of kk) ⟨HL.out.2.2.1, (fun a ha => by cases ha), (fun a ha => by cases ha)⟩ (fun y hy => Nat.lt_of_lt_of_le (HD.out.hi y hy) kk.size) (B3.out.ke k4 (by have h1 := HL.out.1; have h2 := HL.out.2.1; simp; omega)) (R3.out.off R3b.out.bk (Nat.ne_of_lt HL.out.2.1) k4) (show Rs (u3.setCell ⟨s1, 0, none⟩ (.slice none 0 0)) s1 m [] none 0 from ⟨ref_set R3b.out.bk, .inl rfl, by simp, by omega, fun _ => ⟨rfl, rfl⟩, by simp, R3b.out.most⟩) HL.out.1 HL.out.2.1, Sp.of kk⟩
end
end Go.Proofs.Ytpomeimjgbblmaa
