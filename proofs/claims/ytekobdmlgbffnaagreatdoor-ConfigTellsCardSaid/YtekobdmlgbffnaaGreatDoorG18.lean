/- CgP4, CgP5: texts of this seat, one behind the other. -/
import Derived.Test.YtekobdmlgbffnaaGreatDoorG16
import Derived.Test.YtekobdmlgbffnaaGreatDoorSyn7
import Derived.Test.YtekobdmlgbffnaaGreatDoorG4
import Derived.Test.YtekobdmlgbffnaaGreatDoorG12
import Derived.Test.YtekobdmlgbffnaaGreatDoorG8
/- (*reading).net: its contract. (Written by gen_cgp4.py.) -/
namespace Go.Proofs.YtekobdmlgbffnaaGreatDoor
set_option linter.unusedVariables false
set_option maxRecDepth 100000
set_option linter.unusedSimpArgs false
open Go.RowKit

/-- The last tenant's cells. -/
theorem Sc.lastCells {u : World} {B r E g : Nat} {a0 a1 a2 a3 : Int} {T : List Tv} {y : Tv} {c : Nat} (h : Sc u B r E ⟨a0, a1, a2, a3, T ++ [y], some ⟨g, 0, none⟩, c⟩) :
    u.cell? ⟨g, T.length * 5 + 3, none⟩ = some (.slice y.An y.t.nets.length y.cn) ∧ u.cell? ⟨g, T.length * 5 + 4, none⟩ = some (.slice y.Ak y.t.toks.length y.ck) ∧ u.frozen? ⟨g, T.length * 5 + 3, none⟩ = false ∧ u.frozen? ⟨g, T.length * 5 + 4, none⟩ = false := by
  obtain ⟨_, _, cs, hb⟩ := h.row.block 0 g rfl
  have hl : T.length < (T ++ [y]).length := by simp
  have hlt : ∀ j, j < 5 → T.length * 5 + j < (T ++ [y]).length * 5 := fun j hj => by rw [List.length_append, List.length_singleton]; omega
  have e := fun j (hj : j < 5) => (World.ownsRow.cellAt h.row (T.length * 5 + j) (hlt j hj)).trans (fl_at tcs_size (T ++ [y]) T.length hl j hj)
  refine ⟨(e 3 (by omega)).trans ?_, (e 4 (by omega)).trans ?_, hb.frozen _, hb.frozen _⟩
  · simp
  · simp
theorem Sc.form {u : World} {B r E : Nat} {a0 a1 a2 a3 : Int} {T : List Tv} {y : Tv} {A : Option Addr} {c : Nat} (h : Sc u B r E ⟨a0, a1, a2, a3, T ++ [y], A, c⟩) : ∃ g, A = some ⟨g, 0, none⟩ := by
  obtain ⟨g, cap, hv, _, _⟩ := World.ownsRow.form h.row (by simp)
  injection hv with h1 _ _
  exact ⟨g, h1⟩
theorem last_cg {a0 a1 a2 a3 : Int} {T : List Tv} {y : Tv} {A : Option Addr} {c : Nat} : lastC (Cv.cg ⟨a0, a1, a2, a3, T ++ [y], A, c⟩) = some y.t := by
  simp [lastC, Cv.cg]
theorem set_cg {a0 a1 a2 a3 : Int} {T : List Tv} {y : Tv} {A : Option Addr} {c : Nat} (t : Tn) {An Ak : Option Addr} {cn ck : Nat} : setC (Cv.cg ⟨a0, a1, a2, a3, T ++ [y], A, c⟩) t = Cv.cg ⟨a0, a1, a2, a3, T ++ [⟨t, An, cn, Ak, ck⟩], A, c⟩ := by
  simp [setC, Cv.cg]

set_option maxRecDepth 100000 in
set_option maxHeartbeats 8000000 in
theorem netl_none (u : World) (B r E : Nat) (x : Cv) (V : Value) (w0 : List UInt8) (h : Sc u B r E x) (hx : x.ts = []) :
    Calls Tryz.prog 70 #[.pointer (some ⟨r, 0, none⟩), V] u (Rv u B r (readNet x.cg [w0])) := by
  have c4 : u.cell? ⟨r, 4, none⟩ = some (.slice x.A 0 x.c) := (h.blk.cell 4).trans (by rw [show (0 : Nat) = x.ts.length by rw [hx]; rfl]; rfl)
  have HL := Lib.hid (last_none r x.A x.c u c4)
  have HN := Lib.hid (show okC (readNet x.cg [w0]) = none by simp [readNet, lastC, Cv.cg, hx, okC])
  clear c4 h hx
  go_enter Tryz.func70, Tryz.ntmps70
  go_wp2_with (go_at_call 108; refine HL.out.mono ?_; rintro e u1 ⟨rfl, rfl⟩)
  go_ret
  exact ⟨⟨false, rfl, (fun hh => by cases hh), fun _ => HN.out⟩, Ch.refl _ _ _⟩

set_option maxRecDepth 100000 in
set_option maxHeartbeats 8000000 in
theorem netl_some (u : World) (B r E g n : Nat) (a0 a1 a2 a3 : Int) (T : List Tv) (y : Tv) (c b o cw : Nat) (l0 : List UInt8) (h : Sc u B r E ⟨a0, a1, a2, a3, T ++ [y], some ⟨g, 0, none⟩, c⟩) (hT : T.length = n) (hn8 : n ≤ 8) (hy : y.t.nets.length ≤ 4) (hw : Wd u B b o [bs l0]) (z0 : l0.length ≤ 140737488355328) :
    Calls Tryz.prog 70 #[.pointer (some ⟨r, 0, none⟩), .slice (some ⟨b, o, none⟩) 1 cw] u (Rv u B r (readNet (Cv.cg ⟨a0, a1, a2, a3, T ++ [y], some ⟨g, 0, none⟩, c⟩) [l0])) := by
  obtain ⟨k3, k4, _, _⟩ := h.lastCells
  rw [hT] at k3 k4
  have c4 : u.cell? ⟨r, 4, none⟩ = some (.slice (some ⟨g, 0, none⟩) (n + 1) c) := (h.blk.cell 4).trans (by rw [← hT]; simp)
  have HL := Lib.hid (last_some r g n c u (by omega) c4)
  have HLC := Lib.hid (last_cg (a0 := a0) (a1 := a1) (a2 := a2) (a3 := a3) (T := T) (y := y) (A := some ⟨g, 0, none⟩) (c := c))
  have HT := Lib.hid hT
  obtain ⟨p, hp⟩ : ∃ p, y.t.nets.length = p := ⟨_, rfl⟩
  obtain ⟨q, hq⟩ : ∃ q, y.t.toks.length = q := ⟨_, rfl⟩
  rw [hp] at k3 hy
  rw [hq] at k4
  have HPQ := Lib.hid (And.intro hp hq)
  have HS := Lib.hid h
  by_cases hq0 : q = 0
  · subst hq0
    have HW := Lib.hid hw
    have w0 : u.cell? ⟨b, o, none⟩ = some (.string (bs l0)) := hw.at_ 0 (by simp)
    have HN := Lib.hid (fun w => net_ok (bs l0) w (by rw [bs_size]; exact z0))
    obtain ⟨O, hO⟩ : ∃ O, netO (bs l0) = O := ⟨_, rfl⟩
    rw [hO] at HN
    have HO := Lib.hid hO
    have hlt : (O.getD (0, 0)).1 < 4294967296 := by
      cases hOO : O with
      | none => simp
      | some v =>
        obtain ⟨v1, v2⟩ := v
        rw [hOO] at hO
        exact (net_is _ _ _ hO).1
    obtain ⟨na, hna⟩ : ∃ d, (O.getD (0, 0)).1 = d := ⟨_, rfl⟩
    obtain ⟨nb, hnb⟩ : ∃ d, (O.getD (0, 0)).2 = d := ⟨_, rfl⟩
    obtain ⟨is, his⟩ : ∃ d, O.isSome = d := ⟨_, rfl⟩
    rw [hna, hnb, his] at HN
    rw [hna] at hlt
    have HD := Lib.hid (And.intro (And.intro hna hnb) (And.intro his hlt))
    clear h hw hT hp hq c4 z0 hO hna hnb his hlt
    go_enter Tryz.func70, Tryz.ntmps70
    go_upto_region 5 with (first | (go_at_call 108; refine HL.out.mono ?_; rintro e u1 ⟨rfl, rfl⟩) | (go_at_call 109; refine (HN.out _).mono ?_; rintro e u2 ⟨rfl, hb2⟩; have HS2 := Lib.hid (HS.out.on hb2); have HC2 := Lib.hid (Ch.of (B := B) (r := r) hb2); clear hb2))
    obtain ⟨bx, hbx⟩ : ∃ bx, u2.heap.size = bx := ⟨_, rfl⟩
    obtain ⟨V, hV⟩ : ∃ V, u2.alloc (.cells #[.int .u32 (na : Int), .int .i64 (nb : Int)] 85) = V := ⟨_, rfl⟩
    have HBX := Lib.hid (show Bk V bx 85 #[.int .u32 (na : Int), .int .i64 (nb : Int)] from by rw [← hV, ← hbx]; exact Bk.new _ _ _)
    have HSV := Lib.hid (show Sc V B r E ⟨a0, a1, a2, a3, T ++ [y], some ⟨g, 0, none⟩, c⟩ from by rw [← hV]; exact HS2.out.on ((Below.refl _ _).alloc (Nat.le_refl _) _))
    have HCV := Lib.hid (show Ch B r u V from by rw [← hV]; exact HC2.out.trans (Ch.alloc _ _))
    have HNB := Lib.hid (show ∀ n', (Value.slice y.An n' y.cn).ownBlock ≠ some bx from fun n' e => by
      have := ((HS2.out.old T y rfl).2.n.block n' bx e).2.1
      omega)
    rw [hV]
    try rw [hbx]
    clear hV hbx HS2 HC2
    have HSD := Lib.hid (show Sc V.drew B r E ⟨a0, a1, a2, a3, T ++ [y], some ⟨g, 0, none⟩, c⟩ from HSV.out.drewN 1)
    have HSA := Lib.hid (show Sc (V.drew.alloc (.cells #[.int .u32 (na : Int), .int .i64 (nb : Int)] 85)) B r E ⟨a0, a1, a2, a3, T ++ [y], some ⟨g, 0, none⟩, c⟩ from HSD.out.on ((Below.refl _ _).alloc (Nat.le_refl _) _))
    have HBK := Lib.hid (Bk.new V.drew 85 #[.int .u32 (na : Int), .int .i64 (nb : Int)])
    have HLS := Lib.hid (HSA.out.old T y rfl).2.n
    obtain ⟨j3, _, _, _⟩ := HSD.out.lastCells
    obtain ⟨j3a, _, _, _⟩ := HSA.out.lastCells
    rw [HT.out, HPQ.out.1] at j3 j3a
    have j3b : (V.alloc (.cells #[.int .u32 (na : Int), .int .i64 (nb : Int)] 85)).cell? ⟨g, n * 5 + 3, none⟩ = some (.slice y.An p y.cn) := j3a
    have s0 : V.drew.cell? ⟨bx, 0, none⟩ = some (.int .u32 (na : Int)) ∧ V.drew.cell? ⟨bx, 1, none⟩ = some (.int .i64 (nb : Int)) := ⟨(HBX.out.drew).cell 0, (HBX.out.drew).cell 1⟩
    have s0a : (V.drew.alloc (.cells #[.int .u32 (na : Int), .int .i64 (nb : Int)] 85)).cell? ⟨bx, 0, none⟩ = some (.int .u32 (na : Int)) ∧ (V.drew.alloc (.cells #[.int .u32 (na : Int), .int .i64 (nb : Int)] 85)).cell? ⟨bx, 1, none⟩ = some (.int .i64 (nb : Int)) := ⟨((HBX.out.drew).alloc _).cell 0, ((HBX.out.drew).alloc _).cell 1⟩
    have HS0 := Lib.hid (And.intro s0 s0a)
    have HBXA := Lib.hid ((HBX.out.drew).alloc (.cells #[.int .u32 (na : Int), .int .i64 (nb : Int)] 85))
    clear s0 s0a k3 k4 w0
    try simp only [List.cons_append, List.nil_append]
    refine wp_region_held_drew (S := fun wz => wz.cell? ⟨bx, 0, none⟩ = some (.int .u32 (na : Int)) ∧ wz.cell? ⟨bx, 1, none⟩ = some (.int .i64 (nb : Int))) (by kernel_rfl) (HS0.out.1) (fun hHeld => ?_)
    refine tk (some 27) 0 (v := ?_) rfl rfl ?_ hHeld ?_
    rotate_left
    · intro wz hSw; have hw0 := hSw.1; have hw1 := hSw.2; go_simp; try (with_reducible rfl)
    try simp only [lay]
    refine tk (some 28) 1 (v := ?_) rfl rfl ?_ hHeld ?_
    rotate_left
    · intro wz hSw; have hw0 := hSw.1; have hw1 := hSw.2; go_simp; try (with_reducible rfl)
    try simp only [lay]
    refine tk (some 29) 2 (v := ?_) rfl rfl ?_ hHeld ?_
    rotate_left
    · intro wz hSw; have hw0 := hSw.1; have hw1 := hSw.2; go_simp; try (with_reducible rfl)
    try simp only [lay]
    refine tk (some 30) 3 (v := ?_) rfl rfl ?_ hHeld ?_
    rotate_left
    · intro wz hSw; have hw0 := hSw.1; have hw1 := hSw.2; go_simp; try (with_reducible rfl)
    try simp only [lay]
    refine tk (some 32) 5 (v := ?_) rfl rfl ?_ hHeld ?_
    rotate_left
    · intro wz hSw; have hw0 := hSw.1; have hw1 := hSw.2; go_simp; try (with_reducible rfl)
    try simp only [lay]
    refine wpAnyH_ready (rs := [4, 6]) (by kernel_rfl) (by simp) (AllReadyH.cons rfl (fun K hK => ?_) (AllReadyH.cons rfl (fun K hK => ?_) AllReadyH.nil))
    · rw [if_pos (by kernel_rfl)]
      go_simp
      refine hK.out _ _ HS0.out.1 (fun hHeld => ?_)
      try simp only [lay]
      refine wpAnyH_ready (rs := [6]) (by kernel_rfl) (by simp) (AllReadyH.cons rfl (fun K hK => ?_) AllReadyH.nil)
      rw [if_pos (by kernel_rfl)]
      go_simp
      refine hK.out _ _ HS0.out.2 (fun hHeld => ?_)
      try simp only [lay]
      refine wpAnyH_ready (rs := [7]) (by kernel_rfl) (by simp) (AllReadyH.cons rfl (fun K hK => ?_) AllReadyH.nil)
      rw [if_pos (by kernel_rfl)]
      refine op_rows roN (.tmp 31) (.tmp 33) rfl p rfl HPQ.out.1 HLS.out [⟨na, nb⟩] _ 1 _ rfl rfl (fun h => by cases h) (Rw.bk HBK.out) (by omega) HSA.out.ES (p + 1) rfl ?_
      intro A4 c4' w4 ho4 hg4 hb4
      have hbx4 : Bk w4 bx 85 #[.int .u32 (na : Int), .int .i64 (nb : Int)] := (hg4.block bx HBXA.out.lt (fun e => HNB.out p e.symm)).trans HBXA.out
      have hlen : (y.t.nets ++ [(⟨na, nb⟩ : Nt)]).length = p + 1 := by rw [List.length_append, HPQ.out.1]; rfl
      have HTT := Lib.hid (HSA.out.setN hg4 ho4 (fun z hz => by rcases List.mem_append.1 hz with hz | hz; exact (HSA.out.sm y (List.mem_append.2 (.inr (List.mem_singleton.2 rfl)))).lt z hz; rw [List.mem_singleton.1 hz]; exact HD.out.2.2))
      rw [HT.out, hlen] at HTT
      have HCT := Lib.hid (show Ch B r u (w4.setCell ⟨g, n * 5 + 3, none⟩ (.slice A4 (p + 1) c4')) from (((HCV.out.drewN 1).trans (Ch.alloc _ _)).trans (Ch.grown hg4 HLS.out HSA.out.BE)).trans (Ch.set _ (p := ⟨g, n * 5 + 3, none⟩) (.inr (HSA.out.row.block 0 g rfl).1) _))
      obtain ⟨_, _, gcs, hgb⟩ := HSA.out.row.block 0 g rfl
      have hgb4 := grown_ty hg4 HLS.out hgb (.inl (by decide))
      have f4 := hgb4.frozen (n * 5 + 3)
      have q4 : w4.cell? ⟨g, n * 5 + 3, none⟩ = some (.slice y.An p y.cn) := hg4.cell j3a (fun e => by obtain ⟨_, _, cs2, k2⟩ := HLS.out.block p g e.symm; exact hgb.ty k2 (by decide) rfl)
      have HNE := Lib.hid (show bx ≠ g from hbx4.ty hgb4 (by decide))
      have s4 := And.intro (hbx4.cell 0) (hbx4.cell 1)
      clear ho4 hg4 hb4 hgb hgb4 hlen
      refine hK.out _ _ s4 (fun hHeld => ?_)
      try simp only [lay]
      refine tk (some 35) 8 (v := ?_) rfl rfl ?_ hHeld ?_
      rotate_left
      · intro wz hSw; go_simp; try (with_reducible rfl)
      try simp only [lay]
      refine tk (some 36) 9 (v := ?_) rfl rfl ?_ hHeld ?_
      rotate_left
      · intro wz hSw; go_simp; try (with_reducible rfl)
      try simp only [lay]
      refine wpAnyH_ready (rs := [10]) (by kernel_rfl) (by simp) (AllReadyH.cons rfl (fun K hK => ?_) AllReadyH.nil)
      rw [if_pos (by kernel_rfl)]
      go_simp
      refine hK.out _ _ (show (w4.setCell ⟨g, n * 5 + 3, none⟩ (.slice A4 (p + 1) c4')).cell? ⟨bx, 0, none⟩ = some (.int .u32 (na : Int)) ∧ (w4.setCell ⟨g, n * 5 + 3, none⟩ (.slice A4 (p + 1) c4')).cell? ⟨bx, 1, none⟩ = some (.int .i64 (nb : Int)) from ⟨(hbx4.far (p := ⟨g, n * 5 + 3, none⟩) HNE.out _).cell 0, (hbx4.far (p := ⟨g, n * 5 + 3, none⟩) HNE.out _).cell 1⟩) (fun hHeld => ?_)
      try simp only [lay]
      refine wpAnyH_done (by kernel_rfl) ?_ _
      clear hHeld s4 hbx4
      go_wp2_with fail
      go_ret
      refine ⟨⟨is, rfl, fun hi => ⟨E, _, HTT.out, ?_⟩, fun hi => ?_⟩, HCT.out⟩
      · have hO : netO (bs l0) = some (na, nb) := by
          rw [HO.out]
          obtain ⟨⟨e1, e2⟩, e3, _⟩ := HD.out
          cases O with
          | none => rw [← e3] at hi; cases hi
          | some v => obtain ⟨v1, v2⟩ := v; simp at e1 e2; rw [e1, e2]
        have htk : y.t.toks = [] := List.eq_nil_of_length_eq_zero HPQ.out.2
        simp only [readNet, HLC.out, htk, if_pos, hO]
        rw [set_cg]
      · have hO : netO (bs l0) = none := by
          rw [HO.out]
          obtain ⟨_, e3, _⟩ := HD.out
          rw [hi] at e3
          exact Option.not_isSome_iff_eq_none.1 (by rw [e3]; simp)
        have htk : y.t.toks = [] := List.eq_nil_of_length_eq_zero HPQ.out.2
        simp only [readNet, HLC.out, htk, if_pos, hO, okC]
    · rw [if_pos (by kernel_rfl)]
      go_simp
      refine hK.out _ _ HS0.out.2 (fun hHeld => ?_)
      try simp only [lay]
      refine wpAnyH_ready (rs := [4]) (by kernel_rfl) (by simp) (AllReadyH.cons rfl (fun K hK => ?_) AllReadyH.nil)
      rw [if_pos (by kernel_rfl)]
      go_simp
      refine hK.out _ _ HS0.out.2 (fun hHeld => ?_)
      try simp only [lay]
      refine wpAnyH_ready (rs := [7]) (by kernel_rfl) (by simp) (AllReadyH.cons rfl (fun K hK => ?_) AllReadyH.nil)
      rw [if_pos (by kernel_rfl)]
      refine op_rows roN (.tmp 31) (.tmp 33) rfl p rfl HPQ.out.1 HLS.out [⟨na, nb⟩] _ 1 _ rfl rfl (fun h => by cases h) (Rw.bk HBK.out) (by omega) HSA.out.ES (p + 1) rfl ?_
      intro A4 c4' w4 ho4 hg4 hb4
      have hbx4 : Bk w4 bx 85 #[.int .u32 (na : Int), .int .i64 (nb : Int)] := (hg4.block bx HBXA.out.lt (fun e => HNB.out p e.symm)).trans HBXA.out
      have hlen : (y.t.nets ++ [(⟨na, nb⟩ : Nt)]).length = p + 1 := by rw [List.length_append, HPQ.out.1]; rfl
      have HTT := Lib.hid (HSA.out.setN hg4 ho4 (fun z hz => by rcases List.mem_append.1 hz with hz | hz; exact (HSA.out.sm y (List.mem_append.2 (.inr (List.mem_singleton.2 rfl)))).lt z hz; rw [List.mem_singleton.1 hz]; exact HD.out.2.2))
      rw [HT.out, hlen] at HTT
      have HCT := Lib.hid (show Ch B r u (w4.setCell ⟨g, n * 5 + 3, none⟩ (.slice A4 (p + 1) c4')) from (((HCV.out.drewN 1).trans (Ch.alloc _ _)).trans (Ch.grown hg4 HLS.out HSA.out.BE)).trans (Ch.set _ (p := ⟨g, n * 5 + 3, none⟩) (.inr (HSA.out.row.block 0 g rfl).1) _))
      obtain ⟨_, _, gcs, hgb⟩ := HSA.out.row.block 0 g rfl
      have hgb4 := grown_ty hg4 HLS.out hgb (.inl (by decide))
      have f4 := hgb4.frozen (n * 5 + 3)
      have q4 : w4.cell? ⟨g, n * 5 + 3, none⟩ = some (.slice y.An p y.cn) := hg4.cell j3a (fun e => by obtain ⟨_, _, cs2, k2⟩ := HLS.out.block p g e.symm; exact hgb.ty k2 (by decide) rfl)
      have HNE := Lib.hid (show bx ≠ g from hbx4.ty hgb4 (by decide))
      have s4 := And.intro (hbx4.cell 0) (hbx4.cell 1)
      clear ho4 hg4 hb4 hgb hgb4 hlen
      refine hK.out _ _ s4 (fun hHeld => ?_)
      try simp only [lay]
      refine tk (some 35) 8 (v := ?_) rfl rfl ?_ hHeld ?_
      rotate_left
      · intro wz hSw; go_simp; try (with_reducible rfl)
      try simp only [lay]
      refine tk (some 36) 9 (v := ?_) rfl rfl ?_ hHeld ?_
      rotate_left
      · intro wz hSw; go_simp; try (with_reducible rfl)
      try simp only [lay]
      refine wpAnyH_ready (rs := [10]) (by kernel_rfl) (by simp) (AllReadyH.cons rfl (fun K hK => ?_) AllReadyH.nil)
      rw [if_pos (by kernel_rfl)]
      go_simp
      refine hK.out _ _ (show (w4.setCell ⟨g, n * 5 + 3, none⟩ (.slice A4 (p + 1) c4')).cell? ⟨bx, 0, none⟩ = some (.int .u32 (na : Int)) ∧ (w4.setCell ⟨g, n * 5 + 3, none⟩ (.slice A4 (p + 1) c4')).cell? ⟨bx, 1, none⟩ = some (.int .i64 (nb : Int)) from ⟨(hbx4.far (p := ⟨g, n * 5 + 3, none⟩) HNE.out _).cell 0, (hbx4.far (p := ⟨g, n * 5 + 3, none⟩) HNE.out _).cell 1⟩) (fun hHeld => ?_)
      try simp only [lay]
      refine wpAnyH_done (by kernel_rfl) ?_ _
      clear hHeld s4 hbx4
      go_wp2_with fail
      go_ret
      refine ⟨⟨is, rfl, fun hi => ⟨E, _, HTT.out, ?_⟩, fun hi => ?_⟩, HCT.out⟩
      · have hO : netO (bs l0) = some (na, nb) := by
          rw [HO.out]
          obtain ⟨⟨e1, e2⟩, e3, _⟩ := HD.out
          cases O with
          | none => rw [← e3] at hi; cases hi
          | some v => obtain ⟨v1, v2⟩ := v; simp at e1 e2; rw [e1, e2]
        have htk : y.t.toks = [] := List.eq_nil_of_length_eq_zero HPQ.out.2
        simp only [readNet, HLC.out, htk, if_pos, hO]
        rw [set_cg]
      · have hO : netO (bs l0) = none := by
          rw [HO.out]
          obtain ⟨_, e3, _⟩ := HD.out
          rw [hi] at e3
          exact Option.not_isSome_iff_eq_none.1 (by rw [e3]; simp)
        have htk : y.t.toks = [] := List.eq_nil_of_length_eq_zero HPQ.out.2
        simp only [readNet, HLC.out, htk, if_pos, hO, okC]
  · have hq1 : (q : Int) > 0 := by omega
    have HN := Lib.hid (show okC (readNet (Cv.cg ⟨a0, a1, a2, a3, T ++ [y], some ⟨g, 0, none⟩, c⟩) [l0]) = none by
      have htk : y.t.toks ≠ [] := fun e => hq0 (by rw [← hq, e]; rfl)
      simp only [readNet, HLC.out, if_neg htk, okC])
    clear h hw hT hp hq c4 z0 k3
    go_enter Tryz.func70, Tryz.ntmps70
    go_wp2_with (go_at_call 108; refine HL.out.mono ?_; rintro e u1 ⟨rfl, rfl⟩)
    go_ret
    exact ⟨⟨false, rfl, (fun hh => by cases hh), fun _ => HN.out⟩, Ch.refl _ _ _⟩
end Go.Proofs.YtekobdmlgbffnaaGreatDoor

/- (*reading).token: its contract. (Written by gen_cgp4.py.) -/
namespace Go.Proofs.YtekobdmlgbffnaaGreatDoor
set_option linter.unusedVariables false
set_option maxRecDepth 100000
set_option linter.unusedSimpArgs false
open Go.RowKit

theorem unhex_w (l1 : List UInt8) (w : World) (hz : l1.length ≤ 1099511627776) : Calls Tryz.prog 110 #[.string (bs l1)] w fun e w' => ∃ A m cm, e = .returned (.tuple #[.slice A m cm, .bool (unhexB l1).isSome]) ∧ ((unhexB l1).getD []).length = m ∧ Rb w' w'.heap.size A ((unhexB l1).getD []) ∧ (∀ b o, A = some ⟨b, o, none⟩ → w.heap.size ≤ b) ∧ Below w.heap.size w w' := by
  refine (unhex_ok (bs l1) w (by rw [bs_size]; exact hz)).mono ?_
  rintro e w' (⟨l, g, h1, rfl, h2, h3, h4⟩ | ⟨h1, rfl, h4⟩)
  · rw [bs_data] at h1
    rw [h1]
    exact ⟨_, _, _, rfl, rfl, h2, (fun b o e => by injection e with e; injection e with e1 _ _; omega), h4⟩
  · rw [bs_data] at h1
    rw [h1]
    exact ⟨_, _, _, rfl, rfl, .inl rfl, (fun b o e => by cases e), h4⟩
theorem par_w (l : List UInt8) (w : World) (hz : l.length ≤ 140737488355328) : Calls Tryz.prog 106 #[.string (bs l)] w fun e w' => e = .returned (.tuple #[.int .i64 (((decO l).getD 0 : Nat) : Int), .bool (decO l).isSome]) ∧ Below w.heap.size w w' := by
  refine (parse_ok (bs l) w (by rw [bs_size]; exact hz)).mono ?_
  rintro e w' ⟨rfl, hb⟩
  refine ⟨?_, hb⟩
  cases hd : decO l with
  | none => rw [decO_none hd]; rfl
  | some m => rw [decO_some hd]; rfl
theorem Rb.gr {w w' : World} {M : Nat} {A : Option Addr} {l : List UInt8} {row : Option Nat} (h : Rb w M A l) (hg : w.grownBy w' row) (hM : M ≤ w.heap.size) (hn : ∀ b o, A = some ⟨b, o, none⟩ → row ≠ some b) : Rb w' M A l := by
  rcases h with h | ⟨b, o, e, hb, hc⟩
  · exact .inl h
  · exact .inr ⟨b, o, e, hb, fun i hi => hg.cell (hc i hi) (fun e2 => hn b o e e2.symm)⟩
theorem Rb.farB {w : World} {M : Nat} {A : Option Addr} {l : List UInt8} (h : Rb w M A l) (p : Addr) (v : Value) (hn : ∀ b o, A = some ⟨b, o, none⟩ → b ≠ p.block) : Rb (w.setCell p v) M A l := by
  rcases h with h | ⟨b, o, e, hb, hc⟩
  · exact .inl h
  · exact .inr ⟨b, o, e, hb, fun i hi => (World.cell?_of_block (w := w) (a := ⟨b, o + i, none⟩) (Below.heap_setCell _ _ _ _ (hn b o e))).trans (hc i hi)⟩

theorem some_ofL {v : Option (List UInt8)} {d : List UInt8} (h : v.getD [] = d) (hs : v.isSome = true) : v = some d := by cases v <;> simp_all
theorem tok_none {c : Cg} {l0 l1 l2 : List UInt8} (h : unhexB l1 = none ∨ decO l2 = none) : okC (readToken c [l0, l1, l2]) = none := by
  have : readToken c [l0, l1, l2] = none := by
    simp only [readToken]
    cases lastC c with
    | none => rfl
    | some t =>
      rcases h with h | h
      · rw [h]
      · rw [h]; cases unhexB l1 <;> rfl
  rw [this]; rfl
set_option maxRecDepth 100000 in
set_option maxHeartbeats 8000000 in
theorem tokl_none (u : World) (B r E : Nat) (x : Cv) (V : Value) (w0 w1 w2 : List UInt8) (h : Sc u B r E x) (hx : x.ts = []) :
    Calls Tryz.prog 71 #[.pointer (some ⟨r, 0, none⟩), V] u (Rv u B r (readToken x.cg [w0, w1, w2])) := by
  have c4 : u.cell? ⟨r, 4, none⟩ = some (.slice x.A 0 x.c) := (h.blk.cell 4).trans (by rw [show (0 : Nat) = x.ts.length by rw [hx]; rfl]; rfl)
  have HL := Lib.hid (last_none r x.A x.c u c4)
  have HN := Lib.hid (show okC (readToken x.cg [w0, w1, w2]) = none by simp [readToken, lastC, Cv.cg, hx, okC])
  clear c4 h hx
  go_enter Tryz.func71, Tryz.ntmps71
  go_wp2_with (go_at_call 108; refine HL.out.mono ?_; rintro e u1 ⟨rfl, rfl⟩)
  go_ret
  exact ⟨⟨false, rfl, (fun hh => by cases hh), fun _ => HN.out⟩, Ch.refl _ _ _⟩

set_option maxRecDepth 100000 in
set_option maxHeartbeats 8000000 in
theorem tokl_some (u : World) (B r E g n : Nat) (a0 a1 a2 a3 : Int) (T : List Tv) (y : Tv) (c b o cw : Nat) (l0 l1 l2 : List UInt8) (h : Sc u B r E ⟨a0, a1, a2, a3, T ++ [y], some ⟨g, 0, none⟩, c⟩) (hT : T.length = n) (hn8 : n ≤ 8) (hy : y.t.toks.length ≤ 4) (hw : Wd u B b o [bs l0, bs l1, bs l2]) (z0 : l0.length ≤ 140737488355328) (z1 : l1.length ≤ 1099511627776) (z2 : l2.length ≤ 140737488355328) :
    Calls Tryz.prog 71 #[.pointer (some ⟨r, 0, none⟩), .slice (some ⟨b, o, none⟩) 3 cw] u (Rv u B r (readToken (Cv.cg ⟨a0, a1, a2, a3, T ++ [y], some ⟨g, 0, none⟩, c⟩) [l0, l1, l2])) := by
  have c4 : u.cell? ⟨r, 4, none⟩ = some (.slice (some ⟨g, 0, none⟩) (n + 1) c) := (h.blk.cell 4).trans (by rw [← hT]; simp)
  have HL := Lib.hid (last_some r g n c u (by omega) c4)
  have HLC := Lib.hid (last_cg (a0 := a0) (a1 := a1) (a2 := a2) (a3 := a3) (T := T) (y := y) (A := some ⟨g, 0, none⟩) (c := c))
  have HT := Lib.hid hT
  obtain ⟨q, hq⟩ : ∃ q, y.t.toks.length = q := ⟨_, rfl⟩
  rw [hq] at hy
  have HQ := Lib.hid hq
  have HS := Lib.hid h
  have HW := Lib.hid hw
  have w1 : u.cell? ⟨b, o + 1, none⟩ = some (.string (bs l1)) := hw.at_ 1 (by simp)
  have HU := Lib.hid (fun w => unhex_w l1 w z1)
  have HP := Lib.hid (fun w => par_w l2 w z2)
  have hsl : ((unhexB l1).getD []).length ≤ 1099511627776 := by
    cases hh : unhexB l1 with
    | none => simp
    | some l =>
      have := congrArg List.length (hexB_unhexB _ _ hh)
      rw [hexB_len] at this
      simp only [Option.getD_some]; omega
  obtain ⟨v1, hv1⟩ : ∃ v, unhexB l1 = v := ⟨_, rfl⟩
  obtain ⟨v2, hv2⟩ : ∃ v, decO l2 = v := ⟨_, rfl⟩
  rw [hv1] at HU hsl
  rw [hv2] at HP
  have HO := Lib.hid (And.intro hv1 hv2)
  obtain ⟨sl, hd1⟩ : ∃ d, v1.getD [] = d := ⟨_, rfl⟩
  obtain ⟨s1, hs1⟩ : ∃ d, v1.isSome = d := ⟨_, rfl⟩
  obtain ⟨nv, hd2⟩ : ∃ d, v2.getD 0 = d := ⟨_, rfl⟩
  obtain ⟨s2, hs2⟩ : ∃ d, v2.isSome = d := ⟨_, rfl⟩
  rw [hd1, hs1] at HU
  rw [hd1] at hsl
  rw [hd2, hs2] at HP
  have HD := Lib.hid (And.intro (And.intro hd1 hs1) (And.intro hd2 hs2))
  have HZ := Lib.hid (show (bs l0).size ≤ 140737488355328 ∧ (bs sl).size ≤ 140737488355328 from ⟨by rw [bs_size]; exact z0, by rw [bs_size]; omega⟩)
  clear h hw hT hq c4 z0 z1 z2 hv1 hv2 hd1 hs1 hd2 hs2 hsl
  go_enter Tryz.func71, Tryz.ntmps71
  go_upto_region 6 with (first | (go_at_call 108; refine HL.out.mono ?_; rintro e u1 ⟨rfl, rfl⟩) | (go_at_call 110; refine (HU.out _).mono ?_; rintro e u2 ⟨A6, m6, c6, rfl, hm6, hr6, hf6, hb2⟩; have HS2 := Lib.hid (HS.out.on hb2); have HW2 := Lib.hid (HW.out.on hb2); have HC2 := Lib.hid (Ch.of (B := B) (r := r) hb2); have H6 := Lib.hid (And.intro hm6 (And.intro hr6 hf6)); have HSZ := Lib.hid hb2.size; clear hm6 hr6 hf6 hb2; have w2 : u2.cell? ⟨b, o + 2, none⟩ = some (.string (bs l2)) := HW2.out.at_ 2 (by simp)) | (go_at_call 106; refine (HP.out _).mono ?_; rintro e u3 ⟨rfl, hb3⟩; have HS3 := Lib.hid (HS2.out.on hb3); have HW3 := Lib.hid (HW2.out.on hb3); have HC3 := Lib.hid (HC2.out.trans (Ch.of hb3)); have HR3 := Lib.hid (show Rb u3 u2.heap.size A6 sl ∧ u2.heap.size ≤ u3.heap.size from ⟨H6.out.2.1.below hb3 (Nat.le_refl _), hb3.size⟩); clear hb3))
  have w0 : u3.drew.cell? ⟨b, o, none⟩ = some (.string (bs l0)) := (HW3.out.drewN 1).at_ 0 (by simp)
  have HSD := Lib.hid (show Sc u3.drew B r E ⟨a0, a1, a2, a3, T ++ [y], some ⟨g, 0, none⟩, c⟩ from HS3.out.drewN 1)
  have HCD := Lib.hid (show Ch B r u u3.drew from HC3.out.drewN 1)
  have HSA := Lib.hid (show Sc (u3.drew.alloc (.cells #[.string (bs l0), .string (bs sl), .int .i64 (nv : Int)] 37)) B r E ⟨a0, a1, a2, a3, T ++ [y], some ⟨g, 0, none⟩, c⟩ from HSD.out.on ((Below.refl _ _).alloc (Nat.le_refl _) _))
  have HBK := Lib.hid (Bk.new u3.drew 37 #[.string (bs l0), .string (bs sl), .int .i64 (nv : Int)])
  have HLS := Lib.hid (HSA.out.old T y rfl).2.k
  obtain ⟨_, j4, _, _⟩ := HSD.out.lastCells
  obtain ⟨_, j4a, _, _⟩ := HSA.out.lastCells
  rw [HT.out, HQ.out] at j4 j4a
  have j4b : (u3.alloc (.cells #[.string (bs l0), .string (bs sl), .int .i64 (nv : Int)] 37)).cell? ⟨g, n * 5 + 4, none⟩ = some (.slice y.Ak q y.ck) := j4a
  have hbl : b < u3.drew.heap.size := HW3.out.lt
  have w0a : (u3.drew.alloc (.cells #[.string (bs l0), .string (bs sl), .int .i64 (nv : Int)] 37)).cell? ⟨b, o, none⟩ = some (.string (bs l0)) := (((Below.refl u3.drew.heap.size u3.drew).alloc (Nat.le_refl _) _).cell (p := ⟨b, o, none⟩) hbl).trans w0
  have HWA := Lib.hid (show ∃ cs, Bk (u3.drew.alloc (.cells #[.string (bs l0), .string (bs sl), .int .i64 (nv : Int)] 37)) b 9 cs from by obtain ⟨cs, k⟩ := HW3.out.bk; exact ⟨cs, k.drew.alloc _⟩)
  have HNS := Lib.hid (show (∀ b' o', A6 = some ⟨b', o', none⟩ → b' ≠ g) ∧ (∀ b' o' n', A6 = some ⟨b', o', none⟩ → (Value.slice y.Ak n' y.ck).ownBlock ≠ some b') from by
    obtain ⟨_, hg1, _⟩ := HS.out.row.block 0 g rfl
    refine ⟨fun b' o' e => ?_, fun b' o' n' e e2 => ?_⟩
    · have := H6.out.2.2 b' o' e; omega
    · have h1 := H6.out.2.2 b' o' e
      have h2 := ((HS.out.old T y rfl).2.k.block n' b' e2).2.1
      omega)
  have HS0 := Lib.hid (show (u3.drew.cell? ⟨b, o, none⟩ = some (.string (bs l0)) ∧ Rb u3.drew u2.heap.size A6 sl) ∧ ((u3.drew.alloc (.cells #[.string (bs l0), .string (bs sl), .int .i64 (nv : Int)] 37)).cell? ⟨b, o, none⟩ = some (.string (bs l0)) ∧ Rb (u3.drew.alloc (.cells #[.string (bs l0), .string (bs sl), .int .i64 (nv : Int)] 37)) u2.heap.size A6 sl) from
    ⟨⟨w0, HR3.out.1⟩, ⟨w0a, Rb.below (B' := u3.drew.heap.size) (show Rb u3.drew u2.heap.size A6 sl from HR3.out.1) ((Below.refl _ _).alloc (Nat.le_refl _) _) HR3.out.2⟩⟩)
  have HM6 := Lib.hid H6.out.1
  clear w0 w0a w1 w2 HC2 HC3 HS2 HS3
  try simp only [List.cons_append, List.nil_append]
  refine wp_region_held_drew (S := fun wz => wz.cell? ⟨b, o, none⟩ = some (.string (bs l0)) ∧ Rb wz u2.heap.size A6 sl) (by kernel_rfl) (HS0.out.1) (fun hHeld => ?_)
  refine tk (some 28) 0 (v := ?_) rfl rfl ?_ hHeld ?_
  rotate_left
  · intro wz hSw; have hw0 := hSw.1; go_simp; try (with_reducible rfl)
  try simp only [lay]
  refine tk (some 29) 1 (v := ?_) rfl rfl ?_ hHeld ?_
  rotate_left
  · intro wz hSw; have hw0 := hSw.1; go_simp; try (with_reducible rfl)
  try simp only [lay]
  refine tk (some 30) 2 (v := ?_) rfl rfl ?_ hHeld ?_
  rotate_left
  · intro wz hSw; have hw0 := hSw.1; go_simp; try (with_reducible rfl)
  try simp only [lay]
  refine tk (some 31) 3 (v := ?_) rfl rfl ?_ hHeld ?_
  rotate_left
  · intro wz hSw; have hw0 := hSw.1; go_simp; try (with_reducible rfl)
  try simp only [lay]
  refine tk (some 33) 5 (v := ?_) rfl rfl ?_ hHeld ?_
  rotate_left
  · intro wz hSw; have hw0 := hSw.1; go_simp; try (with_reducible rfl)
  try simp only [lay]
  refine tk (some 34) 6 (v := ?_) rfl rfl ?_ hHeld ?_
  rotate_left
  · intro wz hSw; have hw0 := hSw.1; go_simp; try (with_reducible rfl)
  try simp only [lay]
  refine tk (some 35) 7 (v := ?_) rfl rfl ?_ hHeld ?_
  rotate_left
  · intro wz hSw; have hw0 := hSw.1; go_simp; try (with_reducible rfl)
  try simp only [lay]
  refine tk (some 36) 8 (v := ?_) rfl rfl ?_ hHeld ?_
  rotate_left
  · intro wz hSw; have hw0 := hSw.1; go_simp; try (with_reducible rfl)
  try simp only [lay]
  refine take_at (some 37) (i := 9) rfl rfl (by kernel_rfl) (by kernel_rfl) (by kernel_rfl) (fun _ _ _ h => h) (yieldsIf_conv (by kernel_rfl) 98 5 9 (.tmp 36) rfl A6 m6 c6 sl rfl HM6.out (fun w h => h.2) Tryz.underlying98 Tryz.underlying5 Tryz.underlying9) hHeld ?_
  try simp only [lay]
  refine tk (some 38) 10 (v := ?_) rfl rfl ?_ hHeld ?_
  rotate_left
  · intro wz hSw; have hw0 := hSw.1; go_simp; try (with_reducible rfl)
  try simp only [lay]
  refine tk (some 39) 11 (v := ?_) rfl rfl ?_ hHeld ?_
  rotate_left
  · intro wz hSw; have hw0 := hSw.1; go_simp; try (with_reducible rfl)
  try simp only [lay]
  refine wpAnyH_ready (rs := [4, 12]) (by kernel_rfl) (by simp) (AllReadyH.cons rfl (fun K hK => ?_) (AllReadyH.cons rfl (fun K hK => ?_) AllReadyH.nil))
  · rw [if_pos (by kernel_rfl)]
    go_simp
    refine hK.out _ _ HS0.out.1 (fun hHeld => ?_)
    try simp only [lay]
    refine wpAnyH_ready (rs := [12]) (by kernel_rfl) (by simp) (AllReadyH.cons rfl (fun K hK => ?_) AllReadyH.nil)
    rw [if_pos (by kernel_rfl)]
    go_simp
    refine hK.out _ _ HS0.out.2 (fun hHeld => ?_)
    try simp only [lay]
    refine wpAnyH_ready (rs := [13]) (by kernel_rfl) (by simp) (AllReadyH.cons rfl (fun K hK => ?_) AllReadyH.nil)
    rw [if_pos (by kernel_rfl)]
    refine op_rows roK (.tmp 32) (.tmp 40) rfl q rfl HQ.out HLS.out [⟨bs l0, bs sl, nv⟩] _ 1 _ rfl rfl (fun h => by cases h) (Rw.bk HBK.out) (by omega) HSA.out.ES (q + 1) rfl ?_
    intro A4 c4' w4 ho4 hg4 hb4
    have hlen : (y.t.toks ++ [(⟨bs l0, bs sl, nv⟩ : Tk)]).length = q + 1 := by rw [List.length_append, HQ.out]; rfl
    have HTT := Lib.hid (HSA.out.setK hg4 ho4 (fun z hz => by rcases List.mem_append.1 hz with hz | hz; exact (HSA.out.sm y (List.mem_append.2 (.inr (List.mem_singleton.2 rfl)))).szk z hz; rw [List.mem_singleton.1 hz]; exact HZ.out))
    rw [HT.out, hlen] at HTT
    have HCT := Lib.hid (show Ch B r u (w4.setCell ⟨g, n * 5 + 4, none⟩ (.slice A4 (q + 1) c4')) from ((HCD.out.trans (Ch.alloc _ _)).trans (Ch.grown hg4 HLS.out HSA.out.BE)).trans (Ch.set _ (p := ⟨g, n * 5 + 4, none⟩) (.inr (HSA.out.row.block 0 g rfl).1) _))
    obtain ⟨_, _, gcs, hgb⟩ := HSA.out.row.block 0 g rfl
    have hgb4 := grown_ty hg4 HLS.out hgb (.inl (by decide))
    have f4 := hgb4.frozen (n * 5 + 4)
    have q4 : w4.cell? ⟨g, n * 5 + 4, none⟩ = some (.slice y.Ak q y.ck) := hg4.cell j4a (fun e => by obtain ⟨_, _, cs2, k2⟩ := HLS.out.block q g e.symm; exact hgb.ty k2 (by decide) rfl)
    obtain ⟨bcs, hbk⟩ := HWA.out
    have hbk4 := grown_ty hg4 HLS.out hbk (.inl (by decide))
    have HNE := Lib.hid (show b ≠ g from hbk4.ty hgb4 (by decide))
    have s4 : w4.cell? ⟨b, o, none⟩ = some (.string (bs l0)) ∧ Rb w4 u2.heap.size A6 sl := ⟨hg4.cell HS0.out.2.1 (fun e => by obtain ⟨_, _, cs2, k2⟩ := HLS.out.block q b e.symm; exact hbk.ty k2 (by decide) rfl), HS0.out.2.2.gr hg4 (by have := HR3.out.2; rw [World.size_alloc]; show _ ≤ u3.heap.size + 1; omega) (fun b' o' e => HNS.out.2 b' o' q e)⟩
    have HS4 := Lib.hid s4
    clear ho4 hg4 hb4 hgb hgb4 hlen hbk hbk4
    refine hK.out _ _ s4 (fun hHeld => ?_)
    try simp only [lay]
    refine tk (some 42) 14 (v := ?_) rfl rfl ?_ hHeld ?_
    rotate_left
    · intro wz hSw; go_simp; try (with_reducible rfl)
    try simp only [lay]
    refine tk (some 43) 15 (v := ?_) rfl rfl ?_ hHeld ?_
    rotate_left
    · intro wz hSw; go_simp; try (with_reducible rfl)
    try simp only [lay]
    refine wpAnyH_ready (rs := [16]) (by kernel_rfl) (by simp) (AllReadyH.cons rfl (fun K hK => ?_) AllReadyH.nil)
    rw [if_pos (by kernel_rfl)]
    clear s4
    go_simp
    refine hK.out _ _ (show (w4.setCell ⟨g, n * 5 + 4, none⟩ (.slice A4 (q + 1) c4')).cell? ⟨b, o, none⟩ = some (.string (bs l0)) ∧ Rb (w4.setCell ⟨g, n * 5 + 4, none⟩ (.slice A4 (q + 1) c4')) u2.heap.size A6 sl from ⟨(World.cell?_of_block (w := w4) (a := ⟨b, o, none⟩) (Below.heap_setCell _ _ _ _ HNE.out)).trans HS4.out.1, HS4.out.2.farB _ _ HNS.out.1⟩) (fun hHeld => ?_)
    try simp only [lay]
    refine wpAnyH_done (by kernel_rfl) ?_ _
    clear hHeld
    cases s1 <;> cases s2
    all_goals go_wp2_with fail
    all_goals go_ret
    · exact ⟨⟨false, rfl, (fun hh => by cases hh), fun _ => tok_none (.inl (by rw [HO.out.1]; exact Option.not_isSome_iff_eq_none.1 (by rw [HD.out.1.2]; simp)))⟩, HCT.out⟩
    · exact ⟨⟨false, rfl, (fun hh => by cases hh), fun _ => tok_none (.inl (by rw [HO.out.1]; exact Option.not_isSome_iff_eq_none.1 (by rw [HD.out.1.2]; simp)))⟩, HCT.out⟩
    · exact ⟨⟨false, rfl, (fun hh => by cases hh), fun _ => tok_none (.inr (by rw [HO.out.2]; exact Option.not_isSome_iff_eq_none.1 (by rw [HD.out.2.2]; simp)))⟩, HCT.out⟩
    · refine ⟨⟨true, rfl, fun _ => ⟨E, _, HTT.out, ?_⟩, fun hh => by cases hh⟩, HCT.out⟩
      have e1 : unhexB l1 = some sl := by rw [HO.out.1]; exact some_ofL HD.out.1.1 HD.out.1.2
      have e2 : decO l2 = some nv := by rw [HO.out.2]; exact some_of HD.out.2.1 HD.out.2.2
      simp only [readToken, HLC.out, e1, e2]
      rw [set_cg]
  · rw [if_pos (by kernel_rfl)]
    go_simp
    refine hK.out _ _ HS0.out.2 (fun hHeld => ?_)
    try simp only [lay]
    refine wpAnyH_ready (rs := [4]) (by kernel_rfl) (by simp) (AllReadyH.cons rfl (fun K hK => ?_) AllReadyH.nil)
    rw [if_pos (by kernel_rfl)]
    go_simp
    refine hK.out _ _ HS0.out.2 (fun hHeld => ?_)
    try simp only [lay]
    refine wpAnyH_ready (rs := [13]) (by kernel_rfl) (by simp) (AllReadyH.cons rfl (fun K hK => ?_) AllReadyH.nil)
    rw [if_pos (by kernel_rfl)]
    refine op_rows roK (.tmp 32) (.tmp 40) rfl q rfl HQ.out HLS.out [⟨bs l0, bs sl, nv⟩] _ 1 _ rfl rfl (fun h => by cases h) (Rw.bk HBK.out) (by omega) HSA.out.ES (q + 1) rfl ?_
    intro A4 c4' w4 ho4 hg4 hb4
    have hlen : (y.t.toks ++ [(⟨bs l0, bs sl, nv⟩ : Tk)]).length = q + 1 := by rw [List.length_append, HQ.out]; rfl
    have HTT := Lib.hid (HSA.out.setK hg4 ho4 (fun z hz => by rcases List.mem_append.1 hz with hz | hz; exact (HSA.out.sm y (List.mem_append.2 (.inr (List.mem_singleton.2 rfl)))).szk z hz; rw [List.mem_singleton.1 hz]; exact HZ.out))
    rw [HT.out, hlen] at HTT
    have HCT := Lib.hid (show Ch B r u (w4.setCell ⟨g, n * 5 + 4, none⟩ (.slice A4 (q + 1) c4')) from ((HCD.out.trans (Ch.alloc _ _)).trans (Ch.grown hg4 HLS.out HSA.out.BE)).trans (Ch.set _ (p := ⟨g, n * 5 + 4, none⟩) (.inr (HSA.out.row.block 0 g rfl).1) _))
    obtain ⟨_, _, gcs, hgb⟩ := HSA.out.row.block 0 g rfl
    have hgb4 := grown_ty hg4 HLS.out hgb (.inl (by decide))
    have f4 := hgb4.frozen (n * 5 + 4)
    have q4 : w4.cell? ⟨g, n * 5 + 4, none⟩ = some (.slice y.Ak q y.ck) := hg4.cell j4a (fun e => by obtain ⟨_, _, cs2, k2⟩ := HLS.out.block q g e.symm; exact hgb.ty k2 (by decide) rfl)
    obtain ⟨bcs, hbk⟩ := HWA.out
    have hbk4 := grown_ty hg4 HLS.out hbk (.inl (by decide))
    have HNE := Lib.hid (show b ≠ g from hbk4.ty hgb4 (by decide))
    have s4 : w4.cell? ⟨b, o, none⟩ = some (.string (bs l0)) ∧ Rb w4 u2.heap.size A6 sl := ⟨hg4.cell HS0.out.2.1 (fun e => by obtain ⟨_, _, cs2, k2⟩ := HLS.out.block q b e.symm; exact hbk.ty k2 (by decide) rfl), HS0.out.2.2.gr hg4 (by have := HR3.out.2; rw [World.size_alloc]; show _ ≤ u3.heap.size + 1; omega) (fun b' o' e => HNS.out.2 b' o' q e)⟩
    have HS4 := Lib.hid s4
    clear ho4 hg4 hb4 hgb hgb4 hlen hbk hbk4
    refine hK.out _ _ s4 (fun hHeld => ?_)
    try simp only [lay]
    refine tk (some 42) 14 (v := ?_) rfl rfl ?_ hHeld ?_
    rotate_left
    · intro wz hSw; go_simp; try (with_reducible rfl)
    try simp only [lay]
    refine tk (some 43) 15 (v := ?_) rfl rfl ?_ hHeld ?_
    rotate_left
    · intro wz hSw; go_simp; try (with_reducible rfl)
    try simp only [lay]
    refine wpAnyH_ready (rs := [16]) (by kernel_rfl) (by simp) (AllReadyH.cons rfl (fun K hK => ?_) AllReadyH.nil)
    rw [if_pos (by kernel_rfl)]
    clear s4
    go_simp
    refine hK.out _ _ (show (w4.setCell ⟨g, n * 5 + 4, none⟩ (.slice A4 (q + 1) c4')).cell? ⟨b, o, none⟩ = some (.string (bs l0)) ∧ Rb (w4.setCell ⟨g, n * 5 + 4, none⟩ (.slice A4 (q + 1) c4')) u2.heap.size A6 sl from ⟨(World.cell?_of_block (w := w4) (a := ⟨b, o, none⟩) (Below.heap_setCell _ _ _ _ HNE.out)).trans HS4.out.1, HS4.out.2.farB _ _ HNS.out.1⟩) (fun hHeld => ?_)
    try simp only [lay]
    refine wpAnyH_done (by kernel_rfl) ?_ _
    clear hHeld
    cases s1 <;> cases s2
    all_goals go_wp2_with fail
    all_goals go_ret
    · exact ⟨⟨false, rfl, (fun hh => by cases hh), fun _ => tok_none (.inl (by rw [HO.out.1]; exact Option.not_isSome_iff_eq_none.1 (by rw [HD.out.1.2]; simp)))⟩, HCT.out⟩
    · exact ⟨⟨false, rfl, (fun hh => by cases hh), fun _ => tok_none (.inl (by rw [HO.out.1]; exact Option.not_isSome_iff_eq_none.1 (by rw [HD.out.1.2]; simp)))⟩, HCT.out⟩
    · exact ⟨⟨false, rfl, (fun hh => by cases hh), fun _ => tok_none (.inr (by rw [HO.out.2]; exact Option.not_isSome_iff_eq_none.1 (by rw [HD.out.2.2]; simp)))⟩, HCT.out⟩
    · refine ⟨⟨true, rfl, fun _ => ⟨E, _, HTT.out, ?_⟩, fun hh => by cases hh⟩, HCT.out⟩
      have e1 : unhexB l1 = some sl := by rw [HO.out.1]; exact some_ofL HD.out.1.1 HD.out.1.2
      have e2 : decO l2 = some nv := by rw [HO.out.2]; exact some_of HD.out.2.1 HD.out.2.2
      simp only [readToken, HLC.out, e1, e2]
      rw [set_cg]
end Go.Proofs.YtekobdmlgbffnaaGreatDoor
