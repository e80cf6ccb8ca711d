/- The program's own pump: out of one way, Out: their contracts. (Written by gen_puz.py.) -/
import Derived.Test.YtpomeimjgbblmaaPuZ
namespace Go.Proofs.Ytpomeimjgbblmaa
set_option linter.unusedVariables false
set_option maxRecDepth 100000
set_option linter.unusedSimpArgs false
open Go.RowKit

set_option maxRecDepth 100000 in
set_option maxHeartbeats 4000000 in
/-- Out of the way whose cells begin at 0. -/
theorem z_out0 {u : World} {pb r g m : Nat} {ty : TypeId} {q : List UInt8} {en to : Bool} {M : Nat} {x4 x5 x6 x7 x8 : Value} (hb : Bk u pb ty #[.pointer (some ⟨r, 0, none⟩), .bool en, .bool to, .int .i64 (M : Int), x4, x5, x6, x7, x8]) (hr : Rg u r g m q) (hpr : pb ≠ r) (hpg : pb ≠ g) (hM : M ≤ 1099511627776) (x : Int) (n t : Nat) (hn : q.length = n) (ht : takeM x n = t) (b : Bool) (hE : enO ⟨q, en, to, (M : Int)⟩ t = b) :
    Calls Try.prog 33 #[.pointer (some ⟨pb, 0, none⟩), .int .i64 x] u fun e u' => e = .returned (.tuple #[.slice (some ⟨u.heap.size, 0, none⟩) t t, .bool b]) ∧ Bk u' u.heap.size 5 (bcells (q.take t)) ∧ Rg u' r g m (q.drop t) ∧ Bk u' pb ty #[.pointer (some ⟨r, 0, none⟩), .bool en, .bool (to || b), .int .i64 ((M : Int) + (t : Nat)), x4, x5, x6, x7, x8] ∧ Ke [pb, r] u u' := by
  have htn : t ≤ n := ht ▸ takeM_le _ _
  have hnm : n ≤ m := hn ▸ hr.fit
  have hm6 := hr.most
  have HTK := take_ok r g m x q u hr
  rw [hn, ht] at HTK
  have HT := Lib.hid HTK
  clear HTK
  obtain ⟨N, hN⟩ : ∃ N, M + t = N := ⟨_, rfl⟩
  have hwm := (iwrap ((M : Int) + (t : Int)) N (by omega) (by omega)).1
  have hMt : (M : Int) + (t : Int) = (N : Int) := by omega
  rw [hMt] at hwm
  simp only [hMt]
  obtain ⟨d, hd⟩ : ∃ d, n - t = d := ⟨_, rfl⟩
  have hdl : (q.drop t).length = d := by rw [List.length_drop, hn]; exact hd
  have HND := Lib.hid (And.intro hn (And.intro hd (And.intro htn hdl)))
  have HRL := Lib.hid hr.lt
  have HBL := Lib.hid hb.lt
  have HP := Lib.hid (And.intro hpr hpg)
  have hd6 : d ≤ 65536 := by omega
  have d0 : u.cell? ⟨pb, 0, none⟩ = some (.pointer (some ⟨r, 0, none⟩)) := hb.cell 0
  have HB := Lib.hid hb
  have HR := Lib.hid hr
  clear hb hr hn ht hd hdl hN htn hnm hpr hpg
  obtain ⟨s, hs⟩ : ∃ s, u.heap.size = s := ⟨_, rfl⟩
  rw [hs] at HT ⊢
  have HSS := Lib.hid hs
  clear hs
  go_enter Try.func33, Try.ntmps33
  go_upto_region 2 with (go_at_call 41; (with_reducible refine HT.out.mono ?_); rintro e u1 ⟨rfl, j1, j2, j3⟩; have J := Lib.hid (And.intro j1 (And.intro j2 j3)); clear j1 j2 j3)
  clear d0
  have B1 := Lib.hid (HB.out.ke J.out.2.2 (by simpa using HP.out.1))
  have d3 : u1.cell? ⟨pb, 3, none⟩ = some (.int .i64 (M : Int)) := B1.out.cell 3
  have g3 := B1.out.frozen 3
  obtain ⟨u2, hu2⟩ : ∃ u2, u1.setCell ⟨pb, 3, none⟩ (.int .i64 (N : Int)) = u2 := ⟨_, rfl⟩
  have B2 := Lib.hid (show Bk u2 pb ty #[.pointer (some ⟨r, 0, none⟩), .bool en, .bool to, .int .i64 (N : Int), x4, x5, x6, x7, x8] by rw [← hu2]; exact B1.out.set 3 _)
  have K2 := Lib.hid (show Ke [pb] u1 u2 by rw [← hu2]; exact (Ke.refl [pb] u1).set (p := ⟨pb, 3, none⟩) (by simp) _)
  try simp only [hMt]
  go_upto_region 3 with fail
  try rw [hu2]
  clear hu2 d3 g3 hwm
  have R2 := Lib.hid (J.out.2.1.ke K2.out (by simpa using HP.out.1.symm) (by simpa using HP.out.2.symm))
  have F2 := Lib.hid (J.out.1.ke K2.out (by have h1 := HBL.out; have h2 := HSS.out; simp; omega))
  have K02 := Lib.hid (show Ke [pb, r] u u2 from (J.out.2.2.more (by simp)).trans (K2.out.more (by simp)))
  have HMY := many_ok r g m (q.drop t) u2 R2.out
  rw [HND.out.2.2.2] at HMY
  have HM := Lib.hid HMY
  clear HMY
  have d0 : u2.cell? ⟨pb, 0, none⟩ = some (.pointer (some ⟨r, 0, none⟩)) := B2.out.cell 0
  have d1 : u2.cell? ⟨pb, 1, none⟩ = some (.bool en) := B2.out.cell 1
  have d2 : u2.cell? ⟨pb, 2, none⟩ = some (.bool to) := B2.out.cell 2
  have g2 := B2.out.frozen 2
  have HEE := Lib.hid hE
  clear hE
  cases en with
  | false =>
    go_wp2_with (go_at_call 39; (with_reducible refine HM.out.mono ?_); rintro e w3 ⟨rfl, hw⟩; rw [hw]; clear hw)
    go_ret2
    have hb2 : b = false := by rw [← HEE.out]; unfold enO; dsimp only; simp
    subst hb2
    first | exact ⟨rfl, F2.out, R2.out, by simpa using B2.out, K02.out⟩ | (refine ⟨?_, F2.out, R2.out, by simpa using B2.out, K02.out⟩; rfl)
  | true =>
    cases to with
    | true =>
      go_wp2_with (go_at_call 39; (with_reducible refine HM.out.mono ?_); rintro e w3 ⟨rfl, hw⟩; rw [hw]; clear hw)
      go_ret2
      have hb2 : b = false := by rw [← HEE.out]; unfold enO; dsimp only; simp
      subst hb2
      first | exact ⟨rfl, F2.out, R2.out, by simpa using B2.out, K02.out⟩ | (refine ⟨?_, F2.out, R2.out, by simpa using B2.out, K02.out⟩; rfl)
    | false =>
      by_cases hz : 0 < d
      · have z1 : (0 : Int) < (d : Int) := by omega
        go_wp2_with (go_at_call 39; (with_reducible refine HM.out.mono ?_); rintro e w3 ⟨rfl, hw⟩; rw [hw]; clear hw)
        go_ret2
        have hb2 : b = false := by rw [← HEE.out]; unfold enO; dsimp only; have h7 := HND.out; rw [show decide (q.length = t) = false from decide_eq_false (by omega)]; rfl
        subst hb2
        first | exact ⟨rfl, F2.out, R2.out, by simpa using B2.out, K02.out⟩ | (refine ⟨?_, F2.out, R2.out, by simpa using B2.out, K02.out⟩; rfl)
      · have z0 : d = 0 := by omega
        have z1 : ¬ (0 : Int) < (d : Int) := by omega
        go_wp2_with (go_at_call 39; (with_reducible refine HM.out.mono ?_); rintro e w3 ⟨rfl, hw⟩; rw [hw]; clear hw)
        go_ret2
        have hb2 : b = true := by rw [← HEE.out]; unfold enO; dsimp only; have h7 := HND.out; rw [show decide (q.length = t) = true from decide_eq_true (by omega)]; rfl
        subst hb2
        have k3 : Ke [pb] u2 (u2.setCell ⟨pb, 2, none⟩ (.bool true)) := (Ke.refl [pb] u2).set (p := ⟨pb, 2, none⟩) (by simp) _
        have hfin : Bk u2 s 5 (bcells (q.take t)) ∧ s ≠ pb := ⟨F2.out, by have h1 := HBL.out; have h2 := HSS.out; omega⟩
        have b3 : Bk (u2.setCell ⟨pb, 2, none⟩ (.bool true)) pb ty #[.pointer (some ⟨r, 0, none⟩), .bool true, .bool true, .int .i64 (N : Int), x4, x5, x6, x7, x8] := B2.out.set 2 _
        first | exact ⟨rfl, hfin.1.ke k3 (by simpa using hfin.2), R2.out.ke k3 (by simpa using HP.out.1.symm) (by simpa using HP.out.2.symm), by simpa using b3, K02.out.trans (k3.more (by simp))⟩ | (refine ⟨?_, hfin.1.ke k3 (by simpa using hfin.2), R2.out.ke k3 (by simpa using HP.out.1.symm) (by simpa using HP.out.2.symm), by simpa using b3, K02.out.trans (k3.more (by simp))⟩; rfl)
set_option maxRecDepth 100000 in
set_option maxHeartbeats 4000000 in
/-- Out of the way whose cells begin at 4. -/
theorem z_out4 {u : World} {pb r g m : Nat} {ty : TypeId} {q : List UInt8} {en to : Bool} {M : Nat} {x0 x1 x2 x3 x8 : Value} (hb : Bk u pb ty #[x0, x1, x2, x3, .pointer (some ⟨r, 0, none⟩), .bool en, .bool to, .int .i64 (M : Int), x8]) (hr : Rg u r g m q) (hpr : pb ≠ r) (hpg : pb ≠ g) (hM : M ≤ 1099511627776) (x : Int) (n t : Nat) (hn : q.length = n) (ht : takeM x n = t) (b : Bool) (hE : enO ⟨q, en, to, (M : Int)⟩ t = b) :
    Calls Try.prog 33 #[.pointer (some ⟨pb, 4, none⟩), .int .i64 x] u fun e u' => e = .returned (.tuple #[.slice (some ⟨u.heap.size, 0, none⟩) t t, .bool b]) ∧ Bk u' u.heap.size 5 (bcells (q.take t)) ∧ Rg u' r g m (q.drop t) ∧ Bk u' pb ty #[x0, x1, x2, x3, .pointer (some ⟨r, 0, none⟩), .bool en, .bool (to || b), .int .i64 ((M : Int) + (t : Nat)), x8] ∧ Ke [pb, r] u u' := by
  have htn : t ≤ n := ht ▸ takeM_le _ _
  have hnm : n ≤ m := hn ▸ hr.fit
  have hm6 := hr.most
  have HTK := take_ok r g m x q u hr
  rw [hn, ht] at HTK
  have HT := Lib.hid HTK
  clear HTK
  obtain ⟨N, hN⟩ : ∃ N, M + t = N := ⟨_, rfl⟩
  have hwm := (iwrap ((M : Int) + (t : Int)) N (by omega) (by omega)).1
  have hMt : (M : Int) + (t : Int) = (N : Int) := by omega
  rw [hMt] at hwm
  simp only [hMt]
  obtain ⟨d, hd⟩ : ∃ d, n - t = d := ⟨_, rfl⟩
  have hdl : (q.drop t).length = d := by rw [List.length_drop, hn]; exact hd
  have HND := Lib.hid (And.intro hn (And.intro hd (And.intro htn hdl)))
  have HRL := Lib.hid hr.lt
  have HBL := Lib.hid hb.lt
  have HP := Lib.hid (And.intro hpr hpg)
  have hd6 : d ≤ 65536 := by omega
  have d0 : u.cell? ⟨pb, 4, none⟩ = some (.pointer (some ⟨r, 0, none⟩)) := hb.cell 4
  have HB := Lib.hid hb
  have HR := Lib.hid hr
  clear hb hr hn ht hd hdl hN htn hnm hpr hpg
  obtain ⟨s, hs⟩ : ∃ s, u.heap.size = s := ⟨_, rfl⟩
  rw [hs] at HT ⊢
  have HSS := Lib.hid hs
  clear hs
  go_enter Try.func33, Try.ntmps33
  go_upto_region 2 with (go_at_call 41; (with_reducible refine HT.out.mono ?_); rintro e u1 ⟨rfl, j1, j2, j3⟩; have J := Lib.hid (And.intro j1 (And.intro j2 j3)); clear j1 j2 j3)
  clear d0
  have B1 := Lib.hid (HB.out.ke J.out.2.2 (by simpa using HP.out.1))
  have d3 : u1.cell? ⟨pb, 7, none⟩ = some (.int .i64 (M : Int)) := B1.out.cell 7
  have g3 := B1.out.frozen 7
  obtain ⟨u2, hu2⟩ : ∃ u2, u1.setCell ⟨pb, 7, none⟩ (.int .i64 (N : Int)) = u2 := ⟨_, rfl⟩
  have B2 := Lib.hid (show Bk u2 pb ty #[x0, x1, x2, x3, .pointer (some ⟨r, 0, none⟩), .bool en, .bool to, .int .i64 (N : Int), x8] by rw [← hu2]; exact B1.out.set 7 _)
  have K2 := Lib.hid (show Ke [pb] u1 u2 by rw [← hu2]; exact (Ke.refl [pb] u1).set (p := ⟨pb, 7, none⟩) (by simp) _)
  try simp only [hMt]
  go_upto_region 3 with fail
  try rw [hu2]
  clear hu2 d3 g3 hwm
  have R2 := Lib.hid (J.out.2.1.ke K2.out (by simpa using HP.out.1.symm) (by simpa using HP.out.2.symm))
  have F2 := Lib.hid (J.out.1.ke K2.out (by have h1 := HBL.out; have h2 := HSS.out; simp; omega))
  have K02 := Lib.hid (show Ke [pb, r] u u2 from (J.out.2.2.more (by simp)).trans (K2.out.more (by simp)))
  have HMY := many_ok r g m (q.drop t) u2 R2.out
  rw [HND.out.2.2.2] at HMY
  have HM := Lib.hid HMY
  clear HMY
  have d0 : u2.cell? ⟨pb, 4, none⟩ = some (.pointer (some ⟨r, 0, none⟩)) := B2.out.cell 4
  have d1 : u2.cell? ⟨pb, 5, none⟩ = some (.bool en) := B2.out.cell 5
  have d2 : u2.cell? ⟨pb, 6, none⟩ = some (.bool to) := B2.out.cell 6
  have g2 := B2.out.frozen 6
  have HEE := Lib.hid hE
  clear hE
  cases en with
  | false =>
    go_wp2_with (go_at_call 39; (with_reducible refine HM.out.mono ?_); rintro e w3 ⟨rfl, hw⟩; rw [hw]; clear hw)
    go_ret2
    have hb2 : b = false := by rw [← HEE.out]; unfold enO; dsimp only; simp
    subst hb2
    first | exact ⟨rfl, F2.out, R2.out, by simpa using B2.out, K02.out⟩ | (refine ⟨?_, F2.out, R2.out, by simpa using B2.out, K02.out⟩; rfl)
  | true =>
    cases to with
    | true =>
      go_wp2_with (go_at_call 39; (with_reducible refine HM.out.mono ?_); rintro e w3 ⟨rfl, hw⟩; rw [hw]; clear hw)
      go_ret2
      have hb2 : b = false := by rw [← HEE.out]; unfold enO; dsimp only; simp
      subst hb2
      first | exact ⟨rfl, F2.out, R2.out, by simpa using B2.out, K02.out⟩ | (refine ⟨?_, F2.out, R2.out, by simpa using B2.out, K02.out⟩; rfl)
    | false =>
      by_cases hz : 0 < d
      · have z1 : (0 : Int) < (d : Int) := by omega
        go_wp2_with (go_at_call 39; (with_reducible refine HM.out.mono ?_); rintro e w3 ⟨rfl, hw⟩; rw [hw]; clear hw)
        go_ret2
        have hb2 : b = false := by rw [← HEE.out]; unfold enO; dsimp only; have h7 := HND.out; rw [show decide (q.length = t) = false from decide_eq_false (by omega)]; rfl
        subst hb2
        first | exact ⟨rfl, F2.out, R2.out, by simpa using B2.out, K02.out⟩ | (refine ⟨?_, F2.out, R2.out, by simpa using B2.out, K02.out⟩; rfl)
      · have z0 : d = 0 := by omega
        have z1 : ¬ (0 : Int) < (d : Int) := by omega
        go_wp2_with (go_at_call 39; (with_reducible refine HM.out.mono ?_); rintro e w3 ⟨rfl, hw⟩; rw [hw]; clear hw)
        go_ret2
        have hb2 : b = true := by rw [← HEE.out]; unfold enO; dsimp only; have h7 := HND.out; rw [show decide (q.length = t) = true from decide_eq_true (by omega)]; rfl
        subst hb2
        have k3 : Ke [pb] u2 (u2.setCell ⟨pb, 6, none⟩ (.bool true)) := (Ke.refl [pb] u2).set (p := ⟨pb, 6, none⟩) (by simp) _
        have hfin : Bk u2 s 5 (bcells (q.take t)) ∧ s ≠ pb := ⟨F2.out, by have h1 := HBL.out; have h2 := HSS.out; omega⟩
        have b3 : Bk (u2.setCell ⟨pb, 6, none⟩ (.bool true)) pb ty #[x0, x1, x2, x3, .pointer (some ⟨r, 0, none⟩), .bool true, .bool true, .int .i64 (N : Int), x8] := B2.out.set 6 _
        first | exact ⟨rfl, hfin.1.ke k3 (by simpa using hfin.2), R2.out.ke k3 (by simpa using HP.out.1.symm) (by simpa using HP.out.2.symm), by simpa using b3, K02.out.trans (k3.more (by simp))⟩ | (refine ⟨?_, hfin.1.ke k3 (by simpa using hfin.2), R2.out.ke k3 (by simpa using HP.out.1.symm) (by simpa using HP.out.2.symm), by simpa using b3, K02.out.trans (k3.more (by simp))⟩; rfl)
section
variable {W u u' : World} {H H' : List Nat} {pb m : Nat} {p : Pu}
set_option maxRecDepth 100000 in
set_option maxHeartbeats 4000000 in
theorem y_out (h : Zu W u H pb m p) (hg : Gu m p) (hm : m ≤ 65536) (hf : Fu p) (s x : Int) (t : Nat) (l : List UInt8) (b : Bool) (p2 : Pu) (hE : outP p s x = ((l, b), p2)) (ht : l.length = t) :
    Calls Try.prog 14 #[.pointer (some ⟨pb, 0, none⟩), .int .i64 s, .int .i64 x] u fun e u' => ∃ H' A c, e = .returned (.tuple #[.slice A t c, .bool b]) ∧ Fs u' u.heap.size H' A t c l ∧ Zu W u' H' pb m p2 ∧ Sp u u' H H' := by
  obtain ⟨r0, g0, r1, g1, m0, m1, h1, h2, h3, h4, h5, h6⟩ := h.ex
  obtain ⟨⟨aq, ae, ao, am⟩, ⟨bq, be, bo, bm⟩, br⟩ := p
  have HD := Lib.hid h
  have d8 : u.cell? ⟨pb, 8, none⟩ = some (.bool br) := h1.cell 8
  have HB := Lib.hid h1
  have HR := Lib.hid (And.intro h2 h3)
  have HM := Lib.hid h4
  have HL := Lib.hid (And.intro h5 h6)
  have hfa := hf.a
  have hfb := hf.b
  dsimp only at hfa hfb
  have hw0 : IntKind.i64.wrap (1 - 0) = 1 := by decide
  have hw1 : IntKind.i64.wrap (1 - 1) = 0 := by decide
  have hw2 : IntKind.i64.wrap 1 = 1 := by decide
  have hw3 : IntKind.i64.wrap 0 = 0 := by decide
  have hs6 := HD.out.hi
  have HHI := Lib.hid hs6
  clear hg hm hf hs6
  clear h h1 h2 h3 h4 h5 h6
  by_cases e0 : s = 0
  · subst e0
    have HS := Lib.hid zside_0
    cases br with
    | true =>
      have e4 : [] = l := congrArg (fun r => r.1.1) hE
      have e5 : false = b := congrArg (fun r => r.1.2) hE
      have e3 := congrArg (fun r => r.2) hE
      dsimp only at e3
      subst e4; subst e5
      have HT := Lib.hid ht
      have HP2 := Lib.hid e3
      clear hE ht e3
      go_enter Try.func14, Try.ntmps14
      go_wp2_with (go_at_call 32; (with_reducible refine (HS.out _).mono ?_); rintro e w2 ⟨rfl, hw⟩; rw [hw]; clear hw)
      go_ret2
      have ht := HT.out
      simp at ht
      subst ht
      have hp2 := HP2.out
      have hfs : Fs u u.heap.size H none 0 0 [] := ⟨rfl, Nat.le_refl _, by decide, fun _ => ⟨rfl, rfl⟩, .inl rfl⟩
      first | exact ⟨H, none, 0, rfl, hfs, by rw [← hp2]; exact HD.out, Sp.refl _ _⟩ | exact ⟨rfl, H, none, 0, hfs, by rw [← hp2]; exact HD.out, Sp.refl _ _⟩ | exact ⟨H, none, rfl, 0, hfs, by rw [← hp2]; exact HD.out, Sp.refl _ _⟩ | exact ⟨H, rfl, none, 0, hfs, by rw [← hp2]; exact HD.out, Sp.refl _ _⟩ | exact ⟨H, none, 0, hfs, by rw [← hp2]; exact HD.out, Sp.refl _ _⟩
    | false =>
      have e4 : bq.take (takeM x bq.length) = l := congrArg (fun r => r.1.1) hE
      have e5 : enO ⟨bq, be, bo, bm⟩ (takeM x bq.length) = b := congrArg (fun r => r.1.2) hE
      have e3 : (⟨⟨aq, ae, ao, am⟩, ⟨bq.drop (takeM x bq.length), be, bo || enO ⟨bq, be, bo, bm⟩ (takeM x bq.length), bm + (takeM x bq.length : Nat)⟩, false⟩ : Pu) = p2 := congrArg (fun r => r.2) hE
      obtain ⟨n, hn⟩ : ∃ n, bq.length = n := ⟨_, rfl⟩
      rw [hn] at e3 e4 e5
      obtain ⟨T, hT⟩ : ∃ T, takeM x n = T := ⟨_, rfl⟩
      rw [hT] at e3 e4 e5
      have hTn : T ≤ n := by rw [← hT]; exact takeM_le2 x n
      have hTt : T = t := by rw [← ht, ← e4, List.length_take, hn]; omega
      subst hTt
      rw [e5] at e3
      obtain ⟨M, hM⟩ := Int.eq_ofNat_of_zero_le hfb.1
      subst hM
      have HO2 := Lib.hid (z_out4 HB.out HR.out.2 HL.out.1.c HL.out.1.d (by omega) x n T hn hT b e5)
      have HP2 := Lib.hid e3
      have HT4 := Lib.hid (And.intro e4 ht)
      clear hE e3 e4 e5 ht hn hT hTn hfa hfb
      go_enter Try.func14, Try.ntmps14
      go_wp2_with (first | (go_at_call 32; (with_reducible refine (HS.out _).mono ?_); rintro e w2 ⟨rfl, hw⟩; rw [hw]; clear hw) | (go_at_call 33; (with_reducible refine HO2.out.mono ?_); rintro e u3 ⟨rfl, j1, j2, j3, j4⟩; have J := Lib.hid (And.intro j1 (And.intro j2 (And.intro j3 j4))); clear j1 j2 j3 j4))
      go_ret2
      have hp2 := HP2.out
      subst hp2
      have D := HL.out.1
      have J4 := J.out.2.2.2
      have kk : Ke H u u3 := J4.more (fun y hy => by
        simp only [List.mem_cons, List.not_mem_nil, or_false] at hy
        rcases hy with rfl | rfl
        · exact HL.out.2.1
        · exact HL.out.2.2.2.2.1)
      have ho := HR.out.1.ke J4 (by simp only [List.mem_cons, List.not_mem_nil, or_false, not_or]; exact ⟨HL.out.1.a.symm, HL.out.1.e⟩) (by simp only [List.mem_cons, List.not_mem_nil, or_false, not_or]; exact ⟨HL.out.1.b.symm, HL.out.1.g⟩)
      have hfin := HD.out.turn (p' := ⟨⟨aq, ae, ao, am⟩, ⟨bq.drop T, be, bo || b, (M : Int) + (T : Nat)⟩, false⟩) (Sp.of kk) HL.out.2 (fun y hy => Nat.lt_of_lt_of_le (HD.out.hi y hy) kk.size) J.out.2.2.1 ho J.out.2.1 (fun _ => HM.out (by trivial)) D
      have h1 := HR.out.2.fit
      have h2 := HR.out.2.most
      have h3 := HT4.out.2
      have h4 : l.length ≤ bq.length := by rw [← HT4.out.1, List.length_take]; omega
      try dsimp only at h1 h2
      have hfs : Fs u3 u.heap.size H (some ⟨u.heap.size, 0, none⟩) T T l := by
        refine ⟨HT4.out.2, Nat.le_refl _, by omega, (fun h => by cases h), ?_⟩
        rcases (Rf.bk (L := []) J.out.1 (by simp)) with h9 | ⟨g, o, e9, h9, h10, h11⟩
        · left; rw [← HT4.out.1]; exact h9
        · right
          rw [← HT4.out.1]
          injection e9 with e9
          injection e9 with e9 e10
          subst e9; subst e10
          exact ⟨_, 0, rfl, Nat.le_refl _, fun hy => Nat.lt_irrefl _ (HD.out.hi _ hy), h10, h11⟩
      first | exact ⟨H, _, T, rfl, hfs, hfin, Sp.of kk⟩ | exact ⟨rfl, H, _, T, hfs, hfin, Sp.of kk⟩ | exact ⟨H, _, rfl, T, hfs, hfin, Sp.of kk⟩ | exact ⟨H, rfl, _, T, hfs, hfin, Sp.of kk⟩ | exact ⟨H, _, T, hfs, hfin, Sp.of kk⟩
  · by_cases e1 : s = 1
    · subst e1
      have HS := Lib.hid zside_1
      cases br with
      | true =>
        have e4 : [] = l := congrArg (fun r => r.1.1) hE
        have e5 : false = b := congrArg (fun r => r.1.2) hE
        have e3 := congrArg (fun r => r.2) hE
        dsimp only at e3
        subst e4; subst e5
        have HT := Lib.hid ht
        have HP2 := Lib.hid e3
        clear hE ht e3
        go_enter Try.func14, Try.ntmps14
        go_wp2_with (go_at_call 32; (with_reducible refine (HS.out _).mono ?_); rintro e w2 ⟨rfl, hw⟩; rw [hw]; clear hw)
        go_ret2
        have ht := HT.out
        simp at ht
        subst ht
        have hp2 := HP2.out
        have hfs : Fs u u.heap.size H none 0 0 [] := ⟨rfl, Nat.le_refl _, by decide, fun _ => ⟨rfl, rfl⟩, .inl rfl⟩
        first | exact ⟨H, none, 0, rfl, hfs, by rw [← hp2]; exact HD.out, Sp.refl _ _⟩ | exact ⟨rfl, H, none, 0, hfs, by rw [← hp2]; exact HD.out, Sp.refl _ _⟩ | exact ⟨H, none, rfl, 0, hfs, by rw [← hp2]; exact HD.out, Sp.refl _ _⟩ | exact ⟨H, rfl, none, 0, hfs, by rw [← hp2]; exact HD.out, Sp.refl _ _⟩ | exact ⟨H, none, 0, hfs, by rw [← hp2]; exact HD.out, Sp.refl _ _⟩
      | false =>
        have e4 : aq.take (takeM x aq.length) = l := congrArg (fun r => r.1.1) hE
        have e5 : enO ⟨aq, ae, ao, am⟩ (takeM x aq.length) = b := congrArg (fun r => r.1.2) hE
        have e3 : (⟨⟨aq.drop (takeM x aq.length), ae, ao || enO ⟨aq, ae, ao, am⟩ (takeM x aq.length), am + (takeM x aq.length : Nat)⟩, ⟨bq, be, bo, bm⟩, false⟩ : Pu) = p2 := congrArg (fun r => r.2) hE
        obtain ⟨n, hn⟩ : ∃ n, aq.length = n := ⟨_, rfl⟩
        rw [hn] at e3 e4 e5
        obtain ⟨T, hT⟩ : ∃ T, takeM x n = T := ⟨_, rfl⟩
        rw [hT] at e3 e4 e5
        have hTn : T ≤ n := by rw [← hT]; exact takeM_le2 x n
        have hTt : T = t := by rw [← ht, ← e4, List.length_take, hn]; omega
        subst hTt
        rw [e5] at e3
        obtain ⟨M, hM⟩ := Int.eq_ofNat_of_zero_le hfa.1
        subst hM
        have HO2 := Lib.hid (z_out0 HB.out HR.out.1 HL.out.1.a HL.out.1.b (by omega) x n T hn hT b e5)
        have HP2 := Lib.hid e3
        have HT4 := Lib.hid (And.intro e4 ht)
        clear hE e3 e4 e5 ht hn hT hTn hfa hfb
        go_enter Try.func14, Try.ntmps14
        go_wp2_with (first | (go_at_call 32; (with_reducible refine (HS.out _).mono ?_); rintro e w2 ⟨rfl, hw⟩; rw [hw]; clear hw) | (go_at_call 33; (with_reducible refine HO2.out.mono ?_); rintro e u3 ⟨rfl, j1, j2, j3, j4⟩; have J := Lib.hid (And.intro j1 (And.intro j2 (And.intro j3 j4))); clear j1 j2 j3 j4))
        go_ret2
        have hp2 := HP2.out
        subst hp2
        have D := HL.out.1
        have J4 := J.out.2.2.2
        have kk : Ke H u u3 := J4.more (fun y hy => by
          simp only [List.mem_cons, List.not_mem_nil, or_false] at hy
          rcases hy with rfl | rfl
          · exact HL.out.2.1
          · exact HL.out.2.2.1)
        have ho := HR.out.2.ke J4 (by simp only [List.mem_cons, List.not_mem_nil, or_false, not_or]; exact ⟨HL.out.1.c.symm, HL.out.1.e.symm⟩) (by simp only [List.mem_cons, List.not_mem_nil, or_false, not_or]; exact ⟨HL.out.1.d.symm, HL.out.1.f.symm⟩)
        have hfin := HD.out.turn (p' := ⟨⟨aq.drop T, ae, ao || b, (M : Int) + (T : Nat)⟩, ⟨bq, be, bo, bm⟩, false⟩) (Sp.of kk) HL.out.2 (fun y hy => Nat.lt_of_lt_of_le (HD.out.hi y hy) kk.size) J.out.2.2.1 J.out.2.1 ho (fun _ => HM.out (by trivial)) D
        have h1 := HR.out.1.fit
        have h2 := HR.out.1.most
        have h3 := HT4.out.2
        have h4 : l.length ≤ aq.length := by rw [← HT4.out.1, List.length_take]; omega
        try dsimp only at h1 h2
        have hfs : Fs u3 u.heap.size H (some ⟨u.heap.size, 0, none⟩) T T l := by
          refine ⟨HT4.out.2, Nat.le_refl _, by omega, (fun h => by cases h), ?_⟩
          rcases (Rf.bk (L := []) J.out.1 (by simp)) with h9 | ⟨g, o, e9, h9, h10, h11⟩
          · left; rw [← HT4.out.1]; exact h9
          · right
            rw [← HT4.out.1]
            injection e9 with e9
            injection e9 with e9 e10
            subst e9; subst e10
            exact ⟨_, 0, rfl, Nat.le_refl _, fun hy => Nat.lt_irrefl _ (HD.out.hi _ hy), h10, h11⟩
        first | exact ⟨H, _, T, rfl, hfs, hfin, Sp.of kk⟩ | exact ⟨rfl, H, _, T, hfs, hfin, Sp.of kk⟩ | exact ⟨H, _, rfl, T, hfs, hfin, Sp.of kk⟩ | exact ⟨H, rfl, _, T, hfs, hfin, Sp.of kk⟩ | exact ⟨H, _, T, hfs, hfin, Sp.of kk⟩
    · have HS := Lib.hid (zside_n s e0 e1)
      unfold outP at hE
      rw [zsd_n e0 e1] at hE
      clear e0 e1
      have e4 : [] = l := congrArg (fun r => r.1.1) hE
      have e5 : false = b := congrArg (fun r => r.1.2) hE
      have e3 := congrArg (fun r => r.2) hE
      dsimp only at e3
      subst e4; subst e5
      have HT := Lib.hid ht
      have HP2 := Lib.hid e3
      clear hE ht e3
      go_enter Try.func14, Try.ntmps14
      go_wp2_with (go_at_call 32; (with_reducible refine (HS.out _).mono ?_); rintro e w2 ⟨rfl, hw⟩; rw [hw]; clear hw)
      go_ret2
      have ht := HT.out
      simp at ht
      subst ht
      have hp2 := HP2.out
      have hfs : Fs u u.heap.size H none 0 0 [] := ⟨rfl, Nat.le_refl _, by decide, fun _ => ⟨rfl, rfl⟩, .inl rfl⟩
      first | exact ⟨H, none, 0, rfl, hfs, by rw [← hp2]; exact HD.out, Sp.refl _ _⟩ | exact ⟨rfl, H, none, 0, hfs, by rw [← hp2]; exact HD.out, Sp.refl _ _⟩ | exact ⟨H, none, rfl, 0, hfs, by rw [← hp2]; exact HD.out, Sp.refl _ _⟩ | exact ⟨H, rfl, none, 0, hfs, by rw [← hp2]; exact HD.out, Sp.refl _ _⟩ | exact ⟨H, none, 0, hfs, by rw [← hp2]; exact HD.out, Sp.refl _ _⟩
end
end Go.Proofs.Ytpomeimjgbblmaa
