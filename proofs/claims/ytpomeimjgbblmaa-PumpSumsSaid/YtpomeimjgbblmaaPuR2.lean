/- The document's own pump: side, End, Over, Moved, Waits, Room: their contracts. (Written by gen_pur.py.) -/
import Derived.Test.YtpomeimjgbblmaaPuR
namespace Go.Proofs.Ytpomeimjgbblmaa
set_option linter.unusedVariables false
set_option maxRecDepth 100000
set_option linter.unusedSimpArgs false
open Go.RowKit

theorem sdK_0 : sdK 0 = some false := rfl
theorem sdK_1 : sdK 1 = some true := rfl
theorem sdK_n {s : Int} (h0 : s ≠ 0) (h1 : s ≠ 1) : sdK s = none := by unfold sdK; rw [if_neg h0, if_neg h1]
set_option maxRecDepth 100000 in
set_option maxHeartbeats 1000000 in
theorem rside_0 (u : World) : Calls Try.prog 34 #[.int .i64 0] u fun e u' => e = .returned (.bool true) ∧ u' = u := by
  go_enter Try.func34, Try.ntmps34
  go_wp2
  go_ret
  exact ⟨rfl, by first | rfl | trivial⟩
set_option maxRecDepth 100000 in
set_option maxHeartbeats 1000000 in
theorem rside_1 (u : World) : Calls Try.prog 34 #[.int .i64 1] u fun e u' => e = .returned (.bool true) ∧ u' = u := by
  go_enter Try.func34, Try.ntmps34
  go_wp2
  go_ret
  exact ⟨rfl, by first | rfl | trivial⟩
set_option maxRecDepth 100000 in
set_option maxHeartbeats 1000000 in
theorem rside_n (s : Int) (h0 : s ≠ 0) (h1 : s ≠ 1) (u : World) : Calls Try.prog 34 #[.int .i64 s] u fun e u' => e = .returned (.bool false) ∧ u' = u := by
  have k0 : (s == 0) = false := by simp [h0]
  have k1 : (s == 1) = false := by simp [h1]
  clear h0 h1
  go_enter Try.func34, Try.ntmps34
  go_wp2
  go_ret
  exact ⟨rfl, by first | rfl | trivial⟩
section
variable {W u u' : World} {H : List Nat} {rb m : Nat} {p : Pu}
theorem Du.ke {L : List Nat} (h : Du W u H rb m p) (k : Ke L u u') (hL : ∀ y ∈ H, y ∉ L) (hb : Below W.heap.size W u') : Du W u' H rb m p := by
  obtain ⟨s0, s1, A0, c0, A1, c1, h1, h2, h3, h4, h5, h6, h7, h8⟩ := h.ex
  exact ⟨⟨s0, s1, A0, c0, A1, c1, h1.ke k (hL _ h6.1), h2.keB k (hL _ h6.2.1) (fun a ha => hL _ (h7 a ha)), h3.keB k (hL _ h6.2.2) (fun a ha => hL _ (h8 a ha)), h4, h5, h6, h7, h8⟩, hb, h.lo, fun y hy => Nat.lt_of_lt_of_le (h.hi y hy) k.size⟩
theorem Du.on (h : Du W u H rb m p) (hb : Below u.heap.size u u') : Du W u' H rb m p := h.ke (Ke.of hb) (fun _ _ hx => by cases hx) (h.l.trans (hb.mono h.l.size))
theorem Du.turn {s0 s1 c0 c1 : Nat} {A0 A1 : Option Addr} {p' : Pu} {H' : List Nat} (h : Du W u H rb m p) (k : Sp u u' H H') (e : (rb ∈ H' ∧ s0 ∈ H' ∧ s1 ∈ H') ∧ (∀ a, A0 = some a → a.block ∈ H') ∧ ∀ a, A1 = some a → a.block ∈ H') (hz : ∀ y ∈ H', y < u'.heap.size) (h1 : Bk u' rb 57 (ducells p' s0 s1)) (h2 : Rs u' s0 m p'.a.q A0 c0) (h3 : Rs u' s1 m p'.b.q A1 c1) (h4 : rb < s0) (h5 : s0 < s1) : Du W u' H' rb m p' :=
  ⟨⟨s0, s1, A0, c0, A1, c1, h1, h2, h3, h4, h5, e⟩, h.l.trans (k.k.below h.l.size h.lo), fun y hy => by
    rcases k.g y hy with e1 | e1
    · exact h.lo y e1
    · exact Nat.le_trans h.l.size e1, hz⟩
set_option maxRecDepth 100000 in
set_option maxHeartbeats 2000000 in
theorem r_moved (h : Du W u H rb m p) (s r : Int) (hE : mvP p s = r) :
    Calls Try.prog 27 #[.pointer (some ⟨rb, 0, none⟩), .int .i64 s] u fun e u' => e = .returned (.int .i64 r) ∧ u' = u := by
  obtain ⟨s0, s1, A0, c0, A1, c1, h1, h2, h3, h4, h5, h6⟩ := h.ex
  obtain ⟨⟨aq, ae, ao, am⟩, ⟨bq, be, bo, bm⟩, br⟩ := p
  have HD := Lib.hid h
  have d3 : u.cell? ⟨rb, 3, none⟩ = some (.int .i64 am) := h1.cell 3
  have d7 : u.cell? ⟨rb, 7, none⟩ = some (.int .i64 bm) := h1.cell 7
  have hw0 : IntKind.i64.wrap (1 - 0) = 1 := by decide
  have hw1 : IntKind.i64.wrap (1 - 1) = 0 := by decide
  have hw2 : IntKind.i64.wrap 1 = 1 := by decide
  have hw3 : IntKind.i64.wrap 0 = 0 := by decide
  clear h h1 h2 h3 h4 h5 h6
  by_cases e0 : s = 0
  · subst e0
    have HS := Lib.hid rside_0
    have hr : bm = r := hE
    subst hr
    clear hE
    go_enter Try.func27, Try.ntmps27
    go_wp2_with (go_at_call 34; (with_reducible refine (HS.out _).mono ?_); rintro e w2 ⟨rfl, hw⟩; rw [hw]; clear hw)
    go_ret
    exact ⟨rfl, by first | rfl | trivial⟩
  · by_cases e1 : s = 1
    · subst e1
      have HS := Lib.hid rside_1
      have hr : am = r := hE
      subst hr
      clear hE
      go_enter Try.func27, Try.ntmps27
      go_wp2_with (go_at_call 34; (with_reducible refine (HS.out _).mono ?_); rintro e w2 ⟨rfl, hw⟩; rw [hw]; clear hw)
      go_ret
      exact ⟨rfl, by first | rfl | trivial⟩
    · have HS := Lib.hid (rside_n s e0 e1)
      have hr : r = 0 := by rw [← hE]; unfold mvP; rw [sdK_n e0 e1]
      subst hr
      clear hE e0 e1
      go_enter Try.func27, Try.ntmps27
      go_wp2_with (go_at_call 34; (with_reducible refine (HS.out _).mono ?_); rintro e w2 ⟨rfl, hw⟩; rw [hw]; clear hw)
      go_ret
      exact ⟨rfl, by first | rfl | trivial⟩
set_option maxRecDepth 100000 in
set_option maxHeartbeats 2000000 in
theorem r_waits (h : Du W u H rb m p) (s : Int) (r : Nat) (hE : wtP p s = r) :
    Calls Try.prog 23 #[.pointer (some ⟨rb, 0, none⟩), .int .i64 s] u fun e u' => e = .returned (.int .i64 (r : Int)) ∧ u' = u := by
  obtain ⟨s0, s1, A0, c0, A1, c1, h1, h2, h3, h4, h5, h6⟩ := h.ex
  obtain ⟨⟨aq, ae, ao, am⟩, ⟨bq, be, bo, bm⟩, br⟩ := p
  have HD := Lib.hid h
  have d0 : u.cell? ⟨rb, 0, none⟩ = some (.pointer (some ⟨s0, 0, none⟩)) := h1.cell 0
  have d4 : u.cell? ⟨rb, 4, none⟩ = some (.pointer (some ⟨s1, 0, none⟩)) := h1.cell 4
  obtain ⟨k0, -, -⟩ := ref_cells h2.bk
  obtain ⟨k1, -, -⟩ := ref_cells h3.bk
  dsimp only at k0 k1
  have hw0 : IntKind.i64.wrap (1 - 0) = 1 := by decide
  have hw1 : IntKind.i64.wrap (1 - 1) = 0 := by decide
  have hw2 : IntKind.i64.wrap 1 = 1 := by decide
  have hw3 : IntKind.i64.wrap 0 = 0 := by decide
  clear h h1 h2 h3 h4 h5 h6
  by_cases e0 : s = 0
  · subst e0
    have HS := Lib.hid rside_0
    have hr : bq.length = r := hE
    rw [hr] at k1
    clear hE hr
    go_enter Try.func23, Try.ntmps23
    go_wp2_with (go_at_call 34; (with_reducible refine (HS.out _).mono ?_); rintro e w2 ⟨rfl, hw⟩; rw [hw]; clear hw)
    go_ret
    exact ⟨rfl, by first | rfl | trivial⟩
  · by_cases e1 : s = 1
    · subst e1
      have HS := Lib.hid rside_1
      have hr : aq.length = r := hE
      rw [hr] at k0
      clear hE hr
      go_enter Try.func23, Try.ntmps23
      go_wp2_with (go_at_call 34; (with_reducible refine (HS.out _).mono ?_); rintro e w2 ⟨rfl, hw⟩; rw [hw]; clear hw)
      go_ret
      exact ⟨rfl, by first | rfl | trivial⟩
    · have HS := Lib.hid (rside_n s e0 e1)
      have hr : r = 0 := by rw [← hE]; unfold wtP; rw [sdK_n e0 e1]
      subst hr
      clear hE e0 e1
      go_enter Try.func23, Try.ntmps23
      go_wp2_with (go_at_call 34; (with_reducible refine (HS.out _).mono ?_); rintro e w2 ⟨rfl, hw⟩; rw [hw]; clear hw)
      go_ret
      exact ⟨rfl, by first | rfl | trivial⟩
set_option maxRecDepth 100000 in
set_option maxHeartbeats 2000000 in
theorem r_over (h : Du W u H rb m p) (r : Bool) (hE : ovP p = r) :
    Calls Try.prog 29 #[.pointer (some ⟨rb, 0, none⟩)] u fun e u' => e = .returned (.bool r) ∧ u' = u := by
  obtain ⟨s0, s1, A0, c0, A1, c1, h1, h2, h3, h4, h5, h6⟩ := h.ex
  obtain ⟨⟨aq, ae, ao, am⟩, ⟨bq, be, bo, bm⟩, br⟩ := p
  have HD := Lib.hid h
  have d2 : u.cell? ⟨rb, 2, none⟩ = some (.bool ao) := h1.cell 2
  have d6 : u.cell? ⟨rb, 6, none⟩ = some (.bool bo) := h1.cell 6
  have d8 : u.cell? ⟨rb, 8, none⟩ = some (.bool br) := h1.cell 8
  clear h h1 h2 h3 h4 h5 h6
  subst hE
  cases br with
  | true =>
    go_enter Try.func29, Try.ntmps29
    go_wp2
    go_ret
    exact ⟨rfl, by first | rfl | trivial⟩
  | false =>
    cases ao with
    | true =>
      go_enter Try.func29, Try.ntmps29
      go_wp2
      go_ret
      exact ⟨rfl, by first | rfl | trivial⟩
    | false =>
      go_enter Try.func29, Try.ntmps29
      go_wp2
      go_ret
      exact ⟨rfl, by first | rfl | trivial⟩
set_option maxRecDepth 100000 in
set_option maxHeartbeats 2000000 in
theorem r_room (h : Du W u H rb m p) (s : Int) (r : Nat) (hE : rmP m p s = r) :
    Calls Try.prog 25 #[.pointer (some ⟨rb, 0, none⟩), .int .i64 s] u fun e u' => e = .returned (.int .i64 (r : Int)) ∧ Below u.heap.size u u' := by
  obtain ⟨s0, s1, A0, c0, A1, c1, h1, h2, h3, h4, h5, h6⟩ := h.ex
  obtain ⟨⟨aq, ae, ao, am⟩, ⟨bq, be, bo, bm⟩, br⟩ := p
  have HD := Lib.hid h
  have d0 : u.cell? ⟨rb, 0, none⟩ = some (.pointer (some ⟨s0, 0, none⟩)) := h1.cell 0
  have d1 : u.cell? ⟨rb, 1, none⟩ = some (.bool ae) := h1.cell 1
  have d4 : u.cell? ⟨rb, 4, none⟩ = some (.pointer (some ⟨s1, 0, none⟩)) := h1.cell 4
  have d5 : u.cell? ⟨rb, 5, none⟩ = some (.bool be) := h1.cell 5
  have d8 : u.cell? ⟨rb, 8, none⟩ = some (.bool br) := h1.cell 8
  obtain ⟨k0, j0, -⟩ := ref_cells h2.bk
  obtain ⟨k1, j1, -⟩ := ref_cells h3.bk
  dsimp only at k0 k1
  have hm := h2.most
  have hf0 := h2.fit
  have hf1 := h3.fit
  dsimp only at hf0 hf1
  clear h h1 h2 h3 h4 h5 h6
  by_cases e0 : s = 0
  · subst e0
    have HS := Lib.hid rside_0
    cases br with
    | true =>
      have hr : r = 0 := hE.symm
      subst hr
      clear hE
      go_enter Try.func25, Try.ntmps25
      go_wp2_with (go_at_call 34; (with_reducible refine (HS.out _).mono ?_); rintro e w2 ⟨rfl, hw⟩; rw [hw]; clear hw)
      go_ret
      exact ⟨rfl, Below.refl _ _⟩
    | false =>
      cases ae with
      | true =>
        have hr : r = 0 := hE.symm
        subst hr
        clear hE
        go_enter Try.func25, Try.ntmps25
        go_wp2_with (go_at_call 34; (with_reducible refine (HS.out _).mono ?_); rintro e w2 ⟨rfl, hw⟩; rw [hw]; clear hw)
        go_ret
        exact ⟨rfl, Below.refl _ _⟩
      | false =>
        have hr : m - aq.length = r := hE
        obtain ⟨n, hn⟩ : ∃ n, aq.length = n := ⟨_, rfl⟩
        rw [hn] at hr hf0 k0
        have hw := (iwrap ((m : Int) - (n : Int)) r (by omega) (by omega)).1
        clear hE hn
        go_enter Try.func25, Try.ntmps25
        go_upto_region 3 with (go_at_call 34; (with_reducible refine (HS.out _).mono ?_); rintro e w2 ⟨rfl, hw⟩; rw [hw]; clear hw)
        go_region
        go_wp2
        go_ret
        exact ⟨rfl, (Below.refl _ _).drew⟩
  · by_cases e1 : s = 1
    · subst e1
      have HS := Lib.hid rside_1
      cases br with
      | true =>
        have hr : r = 0 := hE.symm
        subst hr
        clear hE
        go_enter Try.func25, Try.ntmps25
        go_wp2_with (go_at_call 34; (with_reducible refine (HS.out _).mono ?_); rintro e w2 ⟨rfl, hw⟩; rw [hw]; clear hw)
        go_ret
        exact ⟨rfl, Below.refl _ _⟩
      | false =>
        cases be with
        | true =>
          have hr : r = 0 := hE.symm
          subst hr
          clear hE
          go_enter Try.func25, Try.ntmps25
          go_wp2_with (go_at_call 34; (with_reducible refine (HS.out _).mono ?_); rintro e w2 ⟨rfl, hw⟩; rw [hw]; clear hw)
          go_ret
          exact ⟨rfl, Below.refl _ _⟩
        | false =>
          have hr : m - bq.length = r := hE
          obtain ⟨n, hn⟩ : ∃ n, bq.length = n := ⟨_, rfl⟩
          rw [hn] at hr hf1 k1
          have hw := (iwrap ((m : Int) - (n : Int)) r (by omega) (by omega)).1
          clear hE hn
          go_enter Try.func25, Try.ntmps25
          go_upto_region 3 with (go_at_call 34; (with_reducible refine (HS.out _).mono ?_); rintro e w2 ⟨rfl, hw⟩; rw [hw]; clear hw)
          go_region
          go_wp2
          go_ret
          exact ⟨rfl, (Below.refl _ _).drew⟩
    · have HS := Lib.hid (rside_n s e0 e1)
      have hr : r = 0 := by rw [← hE]; unfold rmP; rw [sdK_n e0 e1]
      subst hr
      clear hE e0 e1
      go_enter Try.func25, Try.ntmps25
      go_wp2_with (go_at_call 34; (with_reducible refine (HS.out _).mono ?_); rintro e w2 ⟨rfl, hw⟩; rw [hw]; clear hw)
      go_ret
      exact ⟨rfl, Below.refl _ _⟩
set_option maxRecDepth 100000 in
set_option maxHeartbeats 2000000 in
theorem r_end (h : Du W u H rb m p) (s : Int) (r : Bool) (p2 : Pu) (hE : endP p s = (r, p2)) :
    Calls Try.prog 17 #[.pointer (some ⟨rb, 0, none⟩), .int .i64 s] u fun e u' => e = .returned (.bool r) ∧ Du W u' H rb m p2 ∧ Ke H u u' := by
  obtain ⟨s0, s1, A0, c0, A1, c1, h1, h2, h3, h4, h5, h6⟩ := h.ex
  obtain ⟨⟨aq, ae, ao, am⟩, ⟨bq, be, bo, bm⟩, br⟩ := p
  have HD := Lib.hid h
  have d1 : u.cell? ⟨rb, 1, none⟩ = some (.bool ae) := h1.cell 1
  have d5 : u.cell? ⟨rb, 5, none⟩ = some (.bool be) := h1.cell 5
  have d8 : u.cell? ⟨rb, 8, none⟩ = some (.bool br) := h1.cell 8
  have f1 := h1.frozen 1
  have f5 := h1.frozen 5
  have HB := Lib.hid h1
  have HR := Lib.hid (And.intro h2 h3)
  have HL := Lib.hid (And.intro h4 (And.intro h5 h6))
  clear h h1 h2 h3 h4 h5 h6
  by_cases e0 : s = 0
  · subst e0
    have HS := Lib.hid rside_0
    cases br with
    | true =>
      injection hE with e2 e3
      subst e2; subst e3
      go_enter Try.func17, Try.ntmps17
      go_wp2_with (go_at_call 34; (with_reducible refine (HS.out _).mono ?_); rintro e w2 ⟨rfl, hw⟩; rw [hw]; clear hw)
      go_ret
      exact ⟨rfl, HD.out, Ke.refl _ _⟩
    | false =>
      cases ae with
      | true =>
        injection hE with e2 e3
        subst e2; subst e3
        go_enter Try.func17, Try.ntmps17
        go_wp2_with (go_at_call 34; (with_reducible refine (HS.out _).mono ?_); rintro e w2 ⟨rfl, hw⟩; rw [hw]; clear hw)
        go_ret
        exact ⟨rfl, HD.out, Ke.refl _ _⟩
      | false =>
        injection hE with e2 e3
        subst e2; subst e3
        go_enter Try.func17, Try.ntmps17
        go_wp2_with (go_at_call 34; (with_reducible refine (HS.out _).mono ?_); rintro e w2 ⟨rfl, hw⟩; rw [hw]; clear hw)
        go_ret
        have kk : Ke H u (u.setCell ⟨rb, 1, none⟩ (.bool true)) := (Ke.refl H u).set (p := ⟨rb, 1, none⟩) HL.out.2.2.1.1 _
        have k1 : Ke [rb] u (u.setCell ⟨rb, 1, none⟩ (.bool true)) := (Ke.refl [rb] u).set (p := ⟨rb, 1, none⟩) (by simp) _
        exact ⟨rfl, HD.out.turn (Sp.of kk) HL.out.2.2 (fun y hy => Nat.lt_of_lt_of_le (HD.out.hi y hy) kk.size) (HB.out.set 1 _) (HR.out.1.ke k1 (fun x hx => by rw [List.mem_singleton.1 hx]; exact HL.out.1)) (HR.out.2.ke k1 (fun x hx => by rw [List.mem_singleton.1 hx]; exact Nat.lt_trans HL.out.1 HL.out.2.1)) HL.out.1 HL.out.2.1, kk⟩
  · by_cases e1 : s = 1
    · subst e1
      have HS := Lib.hid rside_1
      cases br with
      | true =>
        injection hE with e2 e3
        subst e2; subst e3
        go_enter Try.func17, Try.ntmps17
        go_wp2_with (go_at_call 34; (with_reducible refine (HS.out _).mono ?_); rintro e w2 ⟨rfl, hw⟩; rw [hw]; clear hw)
        go_ret
        exact ⟨rfl, HD.out, Ke.refl _ _⟩
      | false =>
        cases be with
        | true =>
          injection hE with e2 e3
          subst e2; subst e3
          go_enter Try.func17, Try.ntmps17
          go_wp2_with (go_at_call 34; (with_reducible refine (HS.out _).mono ?_); rintro e w2 ⟨rfl, hw⟩; rw [hw]; clear hw)
          go_ret
          exact ⟨rfl, HD.out, Ke.refl _ _⟩
        | false =>
          injection hE with e2 e3
          subst e2; subst e3
          go_enter Try.func17, Try.ntmps17
          go_wp2_with (go_at_call 34; (with_reducible refine (HS.out _).mono ?_); rintro e w2 ⟨rfl, hw⟩; rw [hw]; clear hw)
          go_ret
          have kk : Ke H u (u.setCell ⟨rb, 5, none⟩ (.bool true)) := (Ke.refl H u).set (p := ⟨rb, 5, none⟩) HL.out.2.2.1.1 _
          have k1 : Ke [rb] u (u.setCell ⟨rb, 5, none⟩ (.bool true)) := (Ke.refl [rb] u).set (p := ⟨rb, 5, none⟩) (by simp) _
          exact ⟨rfl, HD.out.turn (Sp.of kk) HL.out.2.2 (fun y hy => Nat.lt_of_lt_of_le (HD.out.hi y hy) kk.size) (HB.out.set 5 _) (HR.out.1.ke k1 (fun x hx => by rw [List.mem_singleton.1 hx]; exact HL.out.1)) (HR.out.2.ke k1 (fun x hx => by rw [List.mem_singleton.1 hx]; exact Nat.lt_trans HL.out.1 HL.out.2.1)) HL.out.1 HL.out.2.1, kk⟩
    · have HS := Lib.hid (rside_n s e0 e1)
      unfold endP at hE
      rw [sdK_n e0 e1] at hE
      injection hE with e2 e3
      subst e2; subst e3
      clear e0 e1
      go_enter Try.func17, Try.ntmps17
      go_wp2_with (go_at_call 34; (with_reducible refine (HS.out _).mono ?_); rintro e w2 ⟨rfl, hw⟩; rw [hw]; clear hw)
      go_ret
      exact ⟨rfl, HD.out, Ke.refl _ _⟩
end
end Go.Proofs.Ytpomeimjgbblmaa
