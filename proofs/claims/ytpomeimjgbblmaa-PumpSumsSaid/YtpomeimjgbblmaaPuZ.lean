/- The program's own pump: its memory; isSide, open, Over, Moved, Waits, Room, End: their contracts. (Written by gen_puz.py.) -/
import Derived.Test.YtpomeimjgbblmaaPuF
import Derived.Test.YtpomeimjgbblmaaRing3
namespace Go.Proofs.Ytpomeimjgbblmaa
set_option linter.unusedVariables false
set_option maxRecDepth 100000
set_option linter.unusedSimpArgs false
open Go.RowKit

/-- The pump's own cells: its rings lie at r0, r1. -/
abbrev zucells (p : Pu) (r0 r1 : Nat) : Array Value := #[.pointer (some ⟨r0, 0, none⟩), .bool p.a.en, .bool p.a.to, .int .i64 p.a.mv, .pointer (some ⟨r1, 0, none⟩), .bool p.b.en, .bool p.b.to, .int .i64 p.b.mv, .bool p.br]
/-- No two of them are one. -/
structure Dz (pb r0 g0 r1 g1 : Nat) : Prop where
  a : pb ≠ r0
  b : pb ≠ g0
  c : pb ≠ r1
  d : pb ≠ g1
  e : r0 ≠ r1
  f : r0 ≠ g1
  g : g0 ≠ r1
  h : g0 ≠ g1
/-- At pb lies the program's pump, of at most m bytes each way, in the blocks H. A pump that is broken has rings of another size. -/
structure Zu (W u : World) (H : List Nat) (pb m : Nat) (p : Pu) : Prop where
  ex : ∃ r0 g0 r1 g1 m0 m1, Bk u pb 51 (zucells p r0 r1) ∧ Rg u r0 g0 m0 p.a.q ∧ Rg u r1 g1 m1 p.b.q ∧ (p.br = false → m0 = m ∧ m1 = m) ∧ Dz pb r0 g0 r1 g1 ∧ (pb ∈ H ∧ r0 ∈ H ∧ g0 ∈ H ∧ r1 ∈ H ∧ g1 ∈ H)
  l : Below W.heap.size W u
  lo : ∀ y ∈ H, W.heap.size ≤ y
  hi : ∀ y ∈ H, y < u.heap.size
theorem zsd_0 : sdK 0 = some false := rfl
theorem zsd_1 : sdK 1 = some true := rfl
theorem zsd_n {s : Int} (h0 : s ≠ 0) (h1 : s ≠ 1) : sdK s = none := by unfold sdK; rw [if_neg h0, if_neg h1]
section
variable {W u u' : World} {H H' : List Nat} {pb m : Nat} {p : Pu}
theorem Zu.ke {L : List Nat} (h : Zu W u H pb m p) (k : Ke L u u') (hL : ∀ y ∈ H, y ∉ L) (hb : Below W.heap.size W u') : Zu W u' H pb m p := by
  obtain ⟨r0, g0, r1, g1, m0, m1, h1, h2, h3, h4, h5, h6, h7, h8, h9, h10⟩ := h.ex
  exact ⟨⟨r0, g0, r1, g1, m0, m1, h1.ke k (hL _ h6), h2.ke k (hL _ h7) (hL _ h8), h3.ke k (hL _ h9) (hL _ h10), h4, h5, h6, h7, h8, h9, h10⟩, hb, h.lo, fun y hy => Nat.lt_of_lt_of_le (h.hi y hy) k.size⟩
theorem Zu.on (h : Zu W u H pb m p) (hb : Below u.heap.size u u') : Zu W u' H pb m p := h.ke (Ke.of hb) (fun _ _ hx => by cases hx) (h.l.trans (hb.mono h.l.size))
theorem Zu.turn {r0 g0 r1 g1 m0 m1 : Nat} {p' : Pu} (h : Zu W u H pb m p) (k : Sp u u' H H') (e : pb ∈ H' ∧ r0 ∈ H' ∧ g0 ∈ H' ∧ r1 ∈ H' ∧ g1 ∈ H') (hz : ∀ y ∈ H', y < u'.heap.size) (h1 : Bk u' pb 51 (zucells p' r0 r1)) (h2 : Rg u' r0 g0 m0 p'.a.q) (h3 : Rg u' r1 g1 m1 p'.b.q) (h4 : p'.br = false → m0 = m ∧ m1 = m) (h5 : Dz pb r0 g0 r1 g1) : Zu W u' H' pb m p' :=
  ⟨⟨r0, g0, r1, g1, m0, m1, h1, h2, h3, h4, h5, e⟩, h.l.trans (k.k.below h.l.size h.lo), fun y hy => by
    rcases k.g y hy with e1 | e1
    · exact h.lo y e1
    · exact Nat.le_trans h.l.size e1, hz⟩
set_option maxRecDepth 100000 in
set_option maxHeartbeats 1000000 in
theorem zside_0 (u : World) : Calls Try.prog 32 #[.int .i64 0] u fun e u' => e = .returned (.bool true) ∧ u' = u := by
  go_enter Try.func32, Try.ntmps32
  go_wp2
  go_ret
  exact ⟨rfl, by first | rfl | trivial⟩
set_option maxRecDepth 100000 in
set_option maxHeartbeats 1000000 in
theorem zside_1 (u : World) : Calls Try.prog 32 #[.int .i64 1] u fun e u' => e = .returned (.bool true) ∧ u' = u := by
  go_enter Try.func32, Try.ntmps32
  go_wp2
  go_ret
  exact ⟨rfl, by first | rfl | trivial⟩
set_option maxRecDepth 100000 in
set_option maxHeartbeats 1000000 in
theorem zside_n (s : Int) (h0 : s ≠ 0) (h1 : s ≠ 1) (u : World) : Calls Try.prog 32 #[.int .i64 s] u fun e u' => e = .returned (.bool false) ∧ u' = u := by
  have k0 : (s == 0) = false := by simp [h0]
  have k1 : (s == 1) = false := by simp [h1]
  clear h0 h1
  go_enter Try.func32, Try.ntmps32
  go_wp2
  go_ret
  exact ⟨rfl, by first | rfl | trivial⟩
/-- May anything come in at it yet? -/
def opP (p : Pu) (s : Int) : Bool := match sdK s with | none => false | some k => !(p.br || (p.w k).en)
set_option maxRecDepth 100000 in
set_option maxHeartbeats 2000000 in
theorem z_open (h : Zu W u H pb m p) (s : Int) (r : Bool) (hE : opP p s = r) :
    Calls Try.prog 36 #[.pointer (some ⟨pb, 0, none⟩), .int .i64 s] u fun e u' => e = .returned (.bool r) ∧ u' = u := by
  obtain ⟨r0, g0, r1, g1, m0, m1, h1, h2, h3, h4, h5, h6⟩ := h.ex
  obtain ⟨⟨aq, ae, ao, am⟩, ⟨bq, be, bo, bm⟩, br⟩ := p
  have HD := Lib.hid h
  have d1 : u.cell? ⟨pb, 1, none⟩ = some (.bool ae) := h1.cell 1
  have d5 : u.cell? ⟨pb, 5, none⟩ = some (.bool be) := h1.cell 5
  have d8 : u.cell? ⟨pb, 8, none⟩ = some (.bool br) := h1.cell 8
  clear h h1 h2 h3 h4 h5 h6
  by_cases e0 : s = 0
  · subst e0
    have HS := Lib.hid zside_0
    cases br with
    | true =>
      have hr : r = false := hE.symm
      subst hr
      clear hE
      go_enter Try.func36, Try.ntmps36
      go_wp2_with (go_at_call 32; (with_reducible refine (HS.out _).mono ?_); rintro e w2 ⟨rfl, hw⟩; rw [hw]; clear hw)
      go_ret
      exact ⟨rfl, by first | rfl | trivial⟩
    | false =>
      cases ae with
      | true =>
        have hr : r = false := hE.symm
        subst hr
        clear hE
        go_enter Try.func36, Try.ntmps36
        go_wp2_with (go_at_call 32; (with_reducible refine (HS.out _).mono ?_); rintro e w2 ⟨rfl, hw⟩; rw [hw]; clear hw)
        go_ret
        exact ⟨rfl, by first | rfl | trivial⟩
      | false =>
        have hr : r = true := hE.symm
        subst hr
        clear hE
        go_enter Try.func36, Try.ntmps36
        go_wp2_with (go_at_call 32; (with_reducible refine (HS.out _).mono ?_); rintro e w2 ⟨rfl, hw⟩; rw [hw]; clear hw)
        go_ret
        exact ⟨rfl, by first | rfl | trivial⟩
  · by_cases e1 : s = 1
    · subst e1
      have HS := Lib.hid zside_1
      cases br with
      | true =>
        have hr : r = false := hE.symm
        subst hr
        clear hE
        go_enter Try.func36, Try.ntmps36
        go_wp2_with (go_at_call 32; (with_reducible refine (HS.out _).mono ?_); rintro e w2 ⟨rfl, hw⟩; rw [hw]; clear hw)
        go_ret
        exact ⟨rfl, by first | rfl | trivial⟩
      | false =>
        cases be with
        | true =>
          have hr : r = false := hE.symm
          subst hr
          clear hE
          go_enter Try.func36, Try.ntmps36
          go_wp2_with (go_at_call 32; (with_reducible refine (HS.out _).mono ?_); rintro e w2 ⟨rfl, hw⟩; rw [hw]; clear hw)
          go_ret
          exact ⟨rfl, by first | rfl | trivial⟩
        | false =>
          have hr : r = true := hE.symm
          subst hr
          clear hE
          go_enter Try.func36, Try.ntmps36
          go_wp2_with (go_at_call 32; (with_reducible refine (HS.out _).mono ?_); rintro e w2 ⟨rfl, hw⟩; rw [hw]; clear hw)
          go_ret
          exact ⟨rfl, by first | rfl | trivial⟩
    · have HS := Lib.hid (zside_n s e0 e1)
      have hr : r = false := by rw [← hE]; unfold opP; rw [zsd_n e0 e1]
      subst hr
      clear hE e0 e1
      go_enter Try.func36, Try.ntmps36
      go_wp2_with (go_at_call 32; (with_reducible refine (HS.out _).mono ?_); rintro e w2 ⟨rfl, hw⟩; rw [hw]; clear hw)
      go_ret
      exact ⟨rfl, by first | rfl | trivial⟩
set_option maxRecDepth 100000 in
set_option maxHeartbeats 2000000 in
theorem y_moved (h : Zu W u H pb m p) (s r : Int) (hE : mvP p s = r) :
    Calls Try.prog 26 #[.pointer (some ⟨pb, 0, none⟩), .int .i64 s] u fun e u' => e = .returned (.int .i64 r) ∧ Below u.heap.size u u' := by
  obtain ⟨r0, g0, r1, g1, m0, m1, h1, h2, h3, h4, h5, h6⟩ := h.ex
  obtain ⟨⟨aq, ae, ao, am⟩, ⟨bq, be, bo, bm⟩, br⟩ := p
  have HD := Lib.hid h
  have d3 : u.cell? ⟨pb, 3, none⟩ = some (.int .i64 am) := h1.cell 3
  have d7 : u.cell? ⟨pb, 7, none⟩ = some (.int .i64 bm) := h1.cell 7
  have hw0 : IntKind.i64.wrap (1 - 0) = 1 := by decide
  have hw1 : IntKind.i64.wrap (1 - 1) = 0 := by decide
  have hw2 : IntKind.i64.wrap 1 = 1 := by decide
  have hw3 : IntKind.i64.wrap 0 = 0 := by decide
  clear h h1 h2 h3 h4 h5 h6
  by_cases e0 : s = 0
  · subst e0
    have HS := Lib.hid zside_0
    have hr : bm = r := hE
    subst hr
    clear hE
    go_enter Try.func26, Try.ntmps26
    go_wp2_with (go_at_call 32; (with_reducible refine (HS.out _).mono ?_); rintro e w2 ⟨rfl, hw⟩; rw [hw]; clear hw)
    go_ret
    exact ⟨rfl, Below.refl _ _⟩
  · by_cases e1 : s = 1
    · subst e1
      have HS := Lib.hid zside_1
      have hr : am = r := hE
      subst hr
      clear hE
      go_enter Try.func26, Try.ntmps26
      go_wp2_with (go_at_call 32; (with_reducible refine (HS.out _).mono ?_); rintro e w2 ⟨rfl, hw⟩; rw [hw]; clear hw)
      go_ret
      exact ⟨rfl, Below.refl _ _⟩
    · have HS := Lib.hid (zside_n s e0 e1)
      have hr : r = 0 := by rw [← hE]; unfold mvP; rw [zsd_n e0 e1]
      subst hr
      clear hE e0 e1
      go_enter Try.func26, Try.ntmps26
      go_wp2_with (go_at_call 32; (with_reducible refine (HS.out _).mono ?_); rintro e w2 ⟨rfl, hw⟩; rw [hw]; clear hw)
      go_ret
      exact ⟨rfl, Below.refl _ _⟩
set_option maxRecDepth 100000 in
set_option maxHeartbeats 2000000 in
theorem y_waits (h : Zu W u H pb m p) (hg : Gu m p) (hm : m ≤ 65536) (s : Int) (r : Nat) (hE : wtP p s = r) :
    Calls Try.prog 22 #[.pointer (some ⟨pb, 0, none⟩), .int .i64 s] u fun e u' => e = .returned (.int .i64 (r : Int)) ∧ Below u.heap.size u u' := by
  obtain ⟨r0, g0, r1, g1, m0, m1, h1, h2, h3, h4, h5, h6⟩ := h.ex
  obtain ⟨⟨aq, ae, ao, am⟩, ⟨bq, be, bo, bm⟩, br⟩ := p
  have HD := Lib.hid h
  have d0 : u.cell? ⟨pb, 0, none⟩ = some (.pointer (some ⟨r0, 0, none⟩)) := h1.cell 0
  have d4 : u.cell? ⟨pb, 4, none⟩ = some (.pointer (some ⟨r1, 0, none⟩)) := h1.cell 4
  have HA := Lib.hid (many_ok r0 g0 m0 aq u h2)
  have HB := Lib.hid (many_ok r1 g1 m1 bq u h3)
  have hw0 : IntKind.i64.wrap (1 - 0) = 1 := by decide
  have hw1 : IntKind.i64.wrap (1 - 1) = 0 := by decide
  have hw2 : IntKind.i64.wrap 1 = 1 := by decide
  have hw3 : IntKind.i64.wrap 0 = 0 := by decide
  clear hg hm
  clear h h1 h2 h3 h4 h5 h6
  by_cases e0 : s = 0
  · subst e0
    have HS := Lib.hid zside_0
    have hr : bq.length = r := hE
    rw [hr] at HB
    clear hE hr HA
    go_enter Try.func22, Try.ntmps22
    go_wp2_with (first | (go_at_call 32; (with_reducible refine (HS.out _).mono ?_); rintro e w2 ⟨rfl, hw⟩; rw [hw]; clear hw) | (go_at_call 39; (with_reducible refine HB.out.mono ?_); rintro e w3 ⟨rfl, hw⟩; rw [hw]; clear hw))
    go_ret
    exact ⟨rfl, Below.refl _ _⟩
  · by_cases e1 : s = 1
    · subst e1
      have HS := Lib.hid zside_1
      have hr : aq.length = r := hE
      rw [hr] at HA
      clear hE hr HB
      go_enter Try.func22, Try.ntmps22
      go_wp2_with (first | (go_at_call 32; (with_reducible refine (HS.out _).mono ?_); rintro e w2 ⟨rfl, hw⟩; rw [hw]; clear hw) | (go_at_call 39; (with_reducible refine HA.out.mono ?_); rintro e w3 ⟨rfl, hw⟩; rw [hw]; clear hw))
      go_ret
      exact ⟨rfl, Below.refl _ _⟩
    · have HS := Lib.hid (zside_n s e0 e1)
      have hr : r = 0 := by rw [← hE]; unfold wtP; rw [zsd_n e0 e1]
      subst hr
      clear hE e0 e1
      go_enter Try.func22, Try.ntmps22
      go_wp2_with (go_at_call 32; (with_reducible refine (HS.out _).mono ?_); rintro e w2 ⟨rfl, hw⟩; rw [hw]; clear hw)
      go_ret
      exact ⟨rfl, Below.refl _ _⟩
set_option maxRecDepth 100000 in
set_option maxHeartbeats 2000000 in
theorem y_over (h : Zu W u H pb m p) (r : Bool) (hE : ovP p = r) :
    Calls Try.prog 28 #[.pointer (some ⟨pb, 0, none⟩)] u fun e u' => e = .returned (.bool r) ∧ Below u.heap.size u u' := by
  obtain ⟨r0, g0, r1, g1, m0, m1, h1, h2, h3, h4, h5, h6⟩ := h.ex
  obtain ⟨⟨aq, ae, ao, am⟩, ⟨bq, be, bo, bm⟩, br⟩ := p
  have HD := Lib.hid h
  have d2 : u.cell? ⟨pb, 2, none⟩ = some (.bool ao) := h1.cell 2
  have d6 : u.cell? ⟨pb, 6, none⟩ = some (.bool bo) := h1.cell 6
  have d8 : u.cell? ⟨pb, 8, none⟩ = some (.bool br) := h1.cell 8
  clear h h1 h2 h3 h4 h5 h6
  subst hE
  cases br with
  | true =>
    go_enter Try.func28, Try.ntmps28
    go_wp2
    go_ret
    exact ⟨rfl, Below.refl _ _⟩
  | false =>
    cases ao with
    | true =>
      go_enter Try.func28, Try.ntmps28
      go_wp2
      go_ret
      exact ⟨rfl, Below.refl _ _⟩
    | false =>
      go_enter Try.func28, Try.ntmps28
      go_wp2
      go_ret
      exact ⟨rfl, Below.refl _ _⟩
set_option maxRecDepth 100000 in
set_option maxHeartbeats 2000000 in
theorem y_room (h : Zu W u H pb m p) (hg : Gu m p) (hm : m ≤ 65536) (s : Int) (r : Nat) (hE : rmP m p s = r) :
    Calls Try.prog 24 #[.pointer (some ⟨pb, 0, none⟩), .int .i64 s] u fun e u' => e = .returned (.int .i64 (r : Int)) ∧ Below u.heap.size u u' := by
  have HOO := Lib.hid (z_open h)
  obtain ⟨r0, g0, r1, g1, m0, m1, h1, h2, h3, h4, h5, h6⟩ := h.ex
  obtain ⟨⟨aq, ae, ao, am⟩, ⟨bq, be, bo, bm⟩, br⟩ := p
  have HD := Lib.hid h
  have d0 : u.cell? ⟨pb, 0, none⟩ = some (.pointer (some ⟨r0, 0, none⟩)) := h1.cell 0
  have d4 : u.cell? ⟨pb, 4, none⟩ = some (.pointer (some ⟨r1, 0, none⟩)) := h1.cell 4
  have HA := Lib.hid (room_ok r0 g0 m0 aq u h2)
  have HB := Lib.hid (room_ok r1 g1 m1 bq u h3)
  have h4' := h4
  clear hg hm
  clear h h1 h2 h3 h4 h5 h6
  by_cases e0 : s = 0
  · subst e0
    cases br with
    | true =>
      have HO := Lib.hid (HOO.out 0 false rfl)
      have hr : r = 0 := hE.symm
      subst hr
      clear hE h4'
      go_enter Try.func24, Try.ntmps24
      go_wp2_with (go_at_call 36; (with_reducible refine HO.out.mono ?_); rintro e w2 ⟨rfl, hw⟩; rw [hw]; clear hw)
      go_ret
      exact ⟨rfl, Below.refl _ _⟩
    | false =>
      cases ae with
      | true =>
        have HO := Lib.hid (HOO.out 0 false rfl)
        have hr : r = 0 := hE.symm
        subst hr
        clear hE h4'
        go_enter Try.func24, Try.ntmps24
        go_wp2_with (go_at_call 36; (with_reducible refine HO.out.mono ?_); rintro e w2 ⟨rfl, hw⟩; rw [hw]; clear hw)
        go_ret
        exact ⟨rfl, Below.refl _ _⟩
      | false =>
        have HO := Lib.hid (HOO.out 0 true rfl)
        obtain ⟨e2, e3⟩ := h4' rfl
        have hr : m - aq.length = r := hE
        rw [e2, hr] at HA
        clear hE hr e2 e3 h4'
        go_enter Try.func24, Try.ntmps24
        go_wp2_with (first | (go_at_call 36; (with_reducible refine HO.out.mono ?_); rintro e w2 ⟨rfl, hw⟩; rw [hw]; clear hw) | (go_at_call 40; (with_reducible refine HA.out.mono ?_); rintro e w3 ⟨rfl, hk⟩; have HK := Lib.hid hk; clear hk))
        go_ret
        exact ⟨rfl, HK.out.below (Nat.le_refl _) (by simp)⟩
  · by_cases e1 : s = 1
    · subst e1
      cases br with
      | true =>
        have HO := Lib.hid (HOO.out 1 false rfl)
        have hr : r = 0 := hE.symm
        subst hr
        clear hE h4'
        go_enter Try.func24, Try.ntmps24
        go_wp2_with (go_at_call 36; (with_reducible refine HO.out.mono ?_); rintro e w2 ⟨rfl, hw⟩; rw [hw]; clear hw)
        go_ret
        exact ⟨rfl, Below.refl _ _⟩
      | false =>
        cases be with
        | true =>
          have HO := Lib.hid (HOO.out 1 false rfl)
          have hr : r = 0 := hE.symm
          subst hr
          clear hE h4'
          go_enter Try.func24, Try.ntmps24
          go_wp2_with (go_at_call 36; (with_reducible refine HO.out.mono ?_); rintro e w2 ⟨rfl, hw⟩; rw [hw]; clear hw)
          go_ret
          exact ⟨rfl, Below.refl _ _⟩
        | false =>
          have HO := Lib.hid (HOO.out 1 true rfl)
          obtain ⟨e2, e3⟩ := h4' rfl
          have hr : m - bq.length = r := hE
          rw [e3, hr] at HB
          clear hE hr e2 e3 h4'
          go_enter Try.func24, Try.ntmps24
          go_wp2_with (first | (go_at_call 36; (with_reducible refine HO.out.mono ?_); rintro e w2 ⟨rfl, hw⟩; rw [hw]; clear hw) | (go_at_call 40; (with_reducible refine HB.out.mono ?_); rintro e w3 ⟨rfl, hk⟩; have HK := Lib.hid hk; clear hk))
          go_ret
          exact ⟨rfl, HK.out.below (Nat.le_refl _) (by simp)⟩
    · have HO := Lib.hid (HOO.out s false (by unfold opP; rw [zsd_n e0 e1]))
      have hr : r = 0 := by rw [← hE]; unfold rmP; rw [zsd_n e0 e1]
      subst hr
      clear hE e0 e1 h4'
      go_enter Try.func24, Try.ntmps24
      go_wp2_with (go_at_call 36; (with_reducible refine HO.out.mono ?_); rintro e w2 ⟨rfl, hw⟩; rw [hw]; clear hw)
      go_ret
      exact ⟨rfl, Below.refl _ _⟩
set_option maxRecDepth 100000 in
set_option maxHeartbeats 2000000 in
theorem y_end (h : Zu W u H pb m p) (s : Int) (r : Bool) (p2 : Pu) (hE : endP p s = (r, p2)) :
    Calls Try.prog 16 #[.pointer (some ⟨pb, 0, none⟩), .int .i64 s] u fun e u' => ∃ H', e = .returned (.bool r) ∧ Zu W u' H' pb m p2 ∧ Sp u u' H H' := by
  have HOO := Lib.hid (z_open h)
  obtain ⟨r0, g0, r1, g1, m0, m1, h1, h2, h3, h4, h5, h6⟩ := h.ex
  obtain ⟨⟨aq, ae, ao, am⟩, ⟨bq, be, bo, bm⟩, br⟩ := p
  have HD := Lib.hid h
  have f1 := h1.frozen 1
  have f5 := h1.frozen 5
  have d1 : u.cell? ⟨pb, 1, none⟩ = some (.bool ae) := h1.cell 1
  have d5 : u.cell? ⟨pb, 5, none⟩ = some (.bool be) := h1.cell 5
  have HB := Lib.hid h1
  have HR := Lib.hid (And.intro h2 h3)
  have HM := Lib.hid h4
  have HL := Lib.hid (And.intro h5 h6)
  clear h h1 h2 h3 h4 h5 h6
  by_cases e0 : s = 0
  · subst e0
    cases br with
    | true =>
      have HO := Lib.hid (HOO.out 0 false rfl)
      injection hE with e2 e3
      subst e2; subst e3
      go_enter Try.func16, Try.ntmps16
      go_wp2_with (go_at_call 36; (with_reducible refine HO.out.mono ?_); rintro e w2 ⟨rfl, hw⟩; rw [hw]; clear hw)
      go_ret
      first | exact ⟨H, rfl, HD.out, Sp.refl _ _⟩ | exact ⟨rfl, H, HD.out, Sp.refl _ _⟩
    | false =>
      cases ae with
      | true =>
        have HO := Lib.hid (HOO.out 0 false rfl)
        injection hE with e2 e3
        subst e2; subst e3
        go_enter Try.func16, Try.ntmps16
        go_wp2_with (go_at_call 36; (with_reducible refine HO.out.mono ?_); rintro e w2 ⟨rfl, hw⟩; rw [hw]; clear hw)
        go_ret
        first | exact ⟨H, rfl, HD.out, Sp.refl _ _⟩ | exact ⟨rfl, H, HD.out, Sp.refl _ _⟩
      | false =>
        have HO := Lib.hid (HOO.out 0 true rfl)
        injection hE with e2 e3
        subst e2; subst e3
        go_enter Try.func16, Try.ntmps16
        go_wp2_with (go_at_call 36; (with_reducible refine HO.out.mono ?_); rintro e w2 ⟨rfl, hw⟩; rw [hw]; clear hw)
        go_ret
        have kk : Ke H u (u.setCell ⟨pb, 1, none⟩ (.bool true)) := (Ke.refl H u).set (p := ⟨pb, 1, none⟩) HL.out.2.1 _
        have k1 : Ke [pb] u (u.setCell ⟨pb, 1, none⟩ (.bool true)) := (Ke.refl [pb] u).set (p := ⟨pb, 1, none⟩) (by simp) _
        have D := HL.out.1
        have hfin := HD.out.turn (p' := ⟨⟨aq, true, ao, am⟩, ⟨bq, be, bo, bm⟩, false⟩) (Sp.of kk) HL.out.2 (fun y hy => Nat.lt_of_lt_of_le (HD.out.hi y hy) kk.size) (HB.out.set 1 _) (HR.out.1.ke k1 (by simpa using D.a.symm) (by simpa using D.b.symm)) (HR.out.2.ke k1 (by simpa using D.c.symm) (by simpa using D.d.symm)) (fun _ => HM.out (by trivial)) D
        first | exact ⟨H, rfl, hfin, Sp.of kk⟩ | exact ⟨rfl, H, hfin, Sp.of kk⟩
  · by_cases e1 : s = 1
    · subst e1
      cases br with
      | true =>
        have HO := Lib.hid (HOO.out 1 false rfl)
        injection hE with e2 e3
        subst e2; subst e3
        go_enter Try.func16, Try.ntmps16
        go_wp2_with (go_at_call 36; (with_reducible refine HO.out.mono ?_); rintro e w2 ⟨rfl, hw⟩; rw [hw]; clear hw)
        go_ret
        first | exact ⟨H, rfl, HD.out, Sp.refl _ _⟩ | exact ⟨rfl, H, HD.out, Sp.refl _ _⟩
      | false =>
        cases be with
        | true =>
          have HO := Lib.hid (HOO.out 1 false rfl)
          injection hE with e2 e3
          subst e2; subst e3
          go_enter Try.func16, Try.ntmps16
          go_wp2_with (go_at_call 36; (with_reducible refine HO.out.mono ?_); rintro e w2 ⟨rfl, hw⟩; rw [hw]; clear hw)
          go_ret
          first | exact ⟨H, rfl, HD.out, Sp.refl _ _⟩ | exact ⟨rfl, H, HD.out, Sp.refl _ _⟩
        | false =>
          have HO := Lib.hid (HOO.out 1 true rfl)
          injection hE with e2 e3
          subst e2; subst e3
          go_enter Try.func16, Try.ntmps16
          go_wp2_with (go_at_call 36; (with_reducible refine HO.out.mono ?_); rintro e w2 ⟨rfl, hw⟩; rw [hw]; clear hw)
          go_ret
          have kk : Ke H u (u.setCell ⟨pb, 5, none⟩ (.bool true)) := (Ke.refl H u).set (p := ⟨pb, 5, none⟩) HL.out.2.1 _
          have k1 : Ke [pb] u (u.setCell ⟨pb, 5, none⟩ (.bool true)) := (Ke.refl [pb] u).set (p := ⟨pb, 5, none⟩) (by simp) _
          have D := HL.out.1
          have hfin := HD.out.turn (p' := ⟨⟨aq, ae, ao, am⟩, ⟨bq, true, bo, bm⟩, false⟩) (Sp.of kk) HL.out.2 (fun y hy => Nat.lt_of_lt_of_le (HD.out.hi y hy) kk.size) (HB.out.set 5 _) (HR.out.1.ke k1 (by simpa using D.a.symm) (by simpa using D.b.symm)) (HR.out.2.ke k1 (by simpa using D.c.symm) (by simpa using D.d.symm)) (fun _ => HM.out (by trivial)) D
          first | exact ⟨H, rfl, hfin, Sp.of kk⟩ | exact ⟨rfl, H, hfin, Sp.of kk⟩
    · have HO := Lib.hid (HOO.out s false (by unfold opP; rw [zsd_n e0 e1]))
      unfold endP at hE
      rw [zsd_n e0 e1] at hE
      injection hE with e2 e3
      subst e2; subst e3
      clear e0 e1
      go_enter Try.func16, Try.ntmps16
      go_wp2_with (go_at_call 36; (with_reducible refine HO.out.mono ?_); rintro e w2 ⟨rfl, hw⟩; rw [hw]; clear hw)
      go_ret
      first | exact ⟨H, rfl, HD.out, Sp.refl _ _⟩ | exact ⟨rfl, H, HD.out, Sp.refl _ _⟩
end
end Go.Proofs.Ytpomeimjgbblmaa
