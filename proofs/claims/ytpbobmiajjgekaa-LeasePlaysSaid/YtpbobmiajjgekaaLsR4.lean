/- The document's own book of leases: put: its contract. -/
import Derived.Test.YtpbobmiajjgekaaLsR3
import Derived.Test.YtpbobmiajjgekaaG7
import Derived.BigRegion
import Derived.Deep.Cut
import Derived.Deep.CutRange
namespace Go.Proofs.Ytpbobmiajjgekaa
set_option linter.unusedVariables false
set_option maxRecDepth 100000
set_option linter.unusedSimpArgs false
open Go.RowKit

theorem gen_q13 {Q : Exit → Act → World → Prop} {e : Exit} {a : Act} {w : World} (S : World → Prop) (hS : S w) (h : ∀ u, S u → Q e a u) : Q e a w := h w hS
theorem below_dn {w : World} (n : Nat) : Below w.heap.size w (w.drewN n) := ⟨rfl, rfl, rfl, Nat.le_refl _, fun _ _ => rfl⟩
theorem foL_few (x : Ls) (l : List Ls) : (foL x l).1.length ≤ l.length + 1 := by
  have := foL_len x l ([], false)
  exact Nat.le_trans (Nat.le_add_right _ _) (by simpa [foL] using this)
set_option maxRecDepth 100000 in
set_option maxHeartbeats 8000000 in
theorem lrput_ok (u : World) (bb B : Nat) (g most : Int) (b : Bo) (x : Ls) (h : Lr u bb B g most b) (hl : b.l.length ≤ 1000000) (hup : UpL b.l) :
    Calls Try.prog 39 #[.pointer (some ⟨bb, 0, none⟩), .agg (lsc x)] u (LrP u bb u.heap.size g most ⟨ptL x b.l, b.nx⟩) := by
  obtain ⟨⟨A, c, h1, h2⟩, h3, h4⟩ := h
  obtain ⟨u1, hu1⟩ : ∃ u1, u.alloc (.cells (lsc x) 32) = u1 := ⟨_, rfl⟩
  have HB1 := Lib.hid (show Below u.heap.size u u1 by rw [← hu1]; exact (Below.refl _ _).alloc (Nat.le_refl _) _)
  have HXB := Lib.hid (show Bk u1 u.heap.size 32 (lsc x) by rw [← hu1]; exact Bk.new _ _ _)
  have HR := Lib.hid ((Ow.rw_ (f := lsc) (k := 6) (fun _ => rfl) h2).on HB1.out)
  have HK := Lib.hid (h1.below HB1.out h1.lt)
  have HLT := Lib.hid (And.intro h3 (And.intro h4 h1.lt))
  have HPT := Lib.hid (foL_put (x := x) hup)
  have HFW := Lib.hid (fun i => foL_few x (b.l.take i))
  obtain ⟨l, nx⟩ := b
  dsimp only at HR HK hl HPT HFW ⊢
  obtain ⟨n, hn⟩ : ∃ n, l.length = n := ⟨_, rfl⟩
  have HN := Lib.hid hn
  rw [hn] at HK hl
  clear h1 h2 h3 h4 hn hup
  obtain ⟨xn, xt, xc, xe, xu, xh⟩ := x
  dsimp only [lsc] at hu1 HXB
  go_enter Try.func39, Try.ntmps39
  go_wp2
  try rw [hu1]
  clear hu1
  obtain ⟨gx, hgx⟩ : ∃ gx, u.heap.size = gx := ⟨_, rfl⟩
  have HGX := Lib.hid hgx
  rw [hgx] at HXB
  try rw [hgx]
  clear hgx
  go_loopw [4, 5, 6] (fun v4 v5 v6 wr => ∃ (i m : Nat) (d : Bool) (A2 : Option Addr) (c2 : Nat) (ol : List Ls), i ≤ n ∧ v4 = .slice A2 m c2 ∧ v5 = .bool d ∧ v6 = .int .i64 (i : Int) ∧ Hid (foL ⟨xn, xt, xc, xe, xu, xh⟩ (l.take i) = (ol, d)) ∧ Hid (ol.length = m) ∧ Hid (OL13 wr u1.heap.size A2 c2 ol) ∧ Hid (Below u1.heap.size u1 wr)) (fun v4 v5 v6 _ => n - (intOf v6).toNat)
  case atStart => exact ⟨0, 0, false, none, 0, [], by omega, rfl, rfl, rfl, Lib.hid rfl, Lib.hid rfl, Lib.hid (Ow.nil _ _), Lib.hid (Below.refl _ _)⟩
  case round =>
    obtain ⟨i, m, d, A2, c2, ol, hi, rfl, rfl, rfl, HF, HM, HO, HB⟩ := hrel
    have HKW := Lib.hid (HK.out.below HB.out HK.out.lt)
    have HXW := Lib.hid (HXB.out.below HB.out HXB.out.lt)
    have hm7 : m ≤ 1000001 := by
      have h1 := HFW.out i
      rw [HF.out] at h1
      have h2 := HM.out
      have h3 : (l.take i).length ≤ l.length := by rw [List.length_take]; omega
      have h4 := HN.out
      dsimp only at h1
      omega
    have e0 : wr.cell? ⟨bb, 0, none⟩ = some (.slice A n c) := HKW.out.cell 0
    by_cases hi1 : i < n
    · have hi2 : (i : Int) < (n : Int) := by omega
      obtain ⟨bx, o, y, rfl, hy, hc⟩ := row6 HR.out i (by rw [HN.out]; exact hi1)
      have HC := Lib.hid hc
      have HY := Lib.hid hy
      have x0 : wr.cell? ⟨gx, 0, none⟩ = some (.string xn) := HXW.out.cell 0
      have x1 : wr.cell? ⟨gx, 1, none⟩ = some (.string xt) := HXW.out.cell 1
      have x2 : wr.cell? ⟨gx, 2, none⟩ = some (.int .i64 xc) := HXW.out.cell 2
      have x3 : wr.cell? ⟨gx, 3, none⟩ = some (.int .i64 xe) := HXW.out.cell 3
      have x4 : wr.cell? ⟨gx, 4, none⟩ = some (.int .i64 xu) := HXW.out.cell 4
      have x5 : wr.cell? ⟨gx, 5, none⟩ = some (.bool xh) := HXW.out.cell 5
      obtain ⟨c0, c1, c2', c3, c4, c5⟩ := hc wr HB.out
      obtain ⟨yn, yt, yc, ye, yu, yh⟩ := y
      obtain ⟨q, hq⟩ : ∃ q, (yn.toList == xn.toList) = q := ⟨_, rfl⟩
      have hq2 : (yn.toList != xn.toList) = !q := by rw [bne, hq]
      obtain ⟨lt, hlt⟩ : ∃ lt, Op.bytesLess yn.toList xn.toList = lt := ⟨_, rfl⟩
      have HST := Lib.hid (show foL ⟨xn, xt, xc, xe, xu, xh⟩ (l.take (i + 1)) = ((if (!d && !lt) = true then ol ++ [⟨xn, xt, xc, xe, xu, xh⟩] else ol) ++ (if q = true then [] else [⟨yn, yt, yc, ye, yu, yh⟩]), d || !lt) by
        have e1 : nmE yn xn = q := hq
        have e2 : ltS yn xn = lt := hlt
        rw [List.take_add_one, HY.out, show (some (⟨yn, yt, yc, ye, yu, yh⟩ : Ls)).toList = [⟨yn, yt, yc, ye, yu, yh⟩] from rfl, foL_snoc, HF.out]
        unfold stL
        dsimp only
        rw [e1, e2])
      have HQ := Lib.hid (show lt = true → q = false from fun e => by
        have := lt_ne (a := yn) (b := xn) (by unfold ltS; rw [hlt, e])
        unfold nmE at this
        rw [hq] at this
        exact this)
      clear hc hy
      dsimp only at c0 c1 c2' c3 c4 c5
      cases d <;> cases lt <;> cases q
      case pos.false.false.false =>
        have HS2 := Lib.hid HST.out
        clear HST HQ
        go_wp2
        go_quiet (fail)
        refine gen_q13 (fun y => OL13 y u1.heap.size A2 c2 ol ∧ Below u1.heap.size u1 y) (by first | exact ⟨HO.out, HB.out⟩ | exact ⟨HO.out.on (below_dn _), HB.out.trans ((below_dn _).mono HB.out.size)⟩) (fun y1 hy => ?_)
        have HOy1 := Lib.hid hy.1
        have HBy1 := Lib.hid hy.2
        clear hy
        clear e0 x0 x1 x2 x3 x4 x5 c0 c1 c2' c3 c4 c5
        have hbw := HBy1.out
        have e0 : y1.cell? ⟨bb, 0, none⟩ = some (.slice (some ⟨bx, o, none⟩) n c) := (HK.out.below hbw HK.out.lt).cell 0
        have x0 : y1.cell? ⟨gx, 0, none⟩ = some (.string xn) := (HXB.out.below hbw HXB.out.lt).cell 0
        have x1 : y1.cell? ⟨gx, 1, none⟩ = some (.string xt) := (HXB.out.below hbw HXB.out.lt).cell 1
        have x2 : y1.cell? ⟨gx, 2, none⟩ = some (.int .i64 xc) := (HXB.out.below hbw HXB.out.lt).cell 2
        have x3 : y1.cell? ⟨gx, 3, none⟩ = some (.int .i64 xe) := (HXB.out.below hbw HXB.out.lt).cell 3
        have x4 : y1.cell? ⟨gx, 4, none⟩ = some (.int .i64 xu) := (HXB.out.below hbw HXB.out.lt).cell 4
        have x5 : y1.cell? ⟨gx, 5, none⟩ = some (.bool xh) := (HXB.out.below hbw HXB.out.lt).cell 5
        obtain ⟨c0, c1, c2', c3, c4, c5⟩ := HC.out y1 hbw
        try dsimp only at c0 c1 c2' c3 c4 c5
        clear hbw
        have HOA := Lib.hid (HOy1.out.on ((Below.refl y1.heap.size y1).alloc (Nat.le_refl _) (.cells #[.string xn, .string xt, .int .i64 xc, .int .i64 xe, .int .i64 xu, .bool xh] 32)))
        have HRX := Lib.hid (Rw.bk (f := lsc) (k := 6) (x := ⟨xn, xt, xc, xe, xu, xh⟩) (Bk.new y1 32 #[.string xn, .string xt, .int .i64 xc, .int .i64 xe, .int .i64 xu, .bool xh]))
        have HBA := Lib.hid (HBy1.out.alloc HBy1.out.size (.cells #[.string xn, .string xt, .int .i64 xc, .int .i64 xe, .int .i64 xu, .bool xh] 32))
        go_wp2_with (at_builtin; refine wp_rows0 roL rfl (.tmp 31) (.tmp 33) rfl (m) rfl HM.out HOA.out [⟨xn, xt, xc, xe, xu, xh⟩] (some ⟨y1.heap.size, 0, none⟩) 1 1 rfl rfl (fun h => by cases h) HRX.out (by omega) HBA.out.size (m + 1) rfl ?_; intro Aw8 cw8 w8 ho9 hg9 hb9; have HOw8 := Lib.hid ho9; have HBw8 := Lib.hid (HBA.out.trans hb9); clear ho9 hg9 hb9 HOA HRX HBA)
        clear e0 x0 x1 x2 x3 x4 x5 c0 c1 c2' c3 c4 c5
        have hbw := HBw8.out
        have e0 : w8.cell? ⟨bb, 0, none⟩ = some (.slice (some ⟨bx, o, none⟩) n c) := (HK.out.below hbw HK.out.lt).cell 0
        have x0 : w8.cell? ⟨gx, 0, none⟩ = some (.string xn) := (HXB.out.below hbw HXB.out.lt).cell 0
        have x1 : w8.cell? ⟨gx, 1, none⟩ = some (.string xt) := (HXB.out.below hbw HXB.out.lt).cell 1
        have x2 : w8.cell? ⟨gx, 2, none⟩ = some (.int .i64 xc) := (HXB.out.below hbw HXB.out.lt).cell 2
        have x3 : w8.cell? ⟨gx, 3, none⟩ = some (.int .i64 xe) := (HXB.out.below hbw HXB.out.lt).cell 3
        have x4 : w8.cell? ⟨gx, 4, none⟩ = some (.int .i64 xu) := (HXB.out.below hbw HXB.out.lt).cell 4
        have x5 : w8.cell? ⟨gx, 5, none⟩ = some (.bool xh) := (HXB.out.below hbw HXB.out.lt).cell 5
        obtain ⟨c0, c1, c2', c3, c4, c5⟩ := HC.out w8 hbw
        try dsimp only at c0 c1 c2' c3 c4 c5
        clear hbw
        go_quiet (fail)
        refine gen_q13 (fun y => OL13 y u1.heap.size Aw8 cw8 (ol ++ [⟨xn, xt, xc, xe, xu, xh⟩]) ∧ Below u1.heap.size u1 y) (by first | exact ⟨HOw8.out, HBw8.out⟩ | exact ⟨HOw8.out.on (below_dn _), HBw8.out.trans ((below_dn _).mono HBw8.out.size)⟩) (fun y2 hy => ?_)
        have HOy2 := Lib.hid hy.1
        have HBy2 := Lib.hid hy.2
        clear hy
        clear e0 x0 x1 x2 x3 x4 x5 c0 c1 c2' c3 c4 c5
        have hbw := HBy2.out
        have e0 : y2.cell? ⟨bb, 0, none⟩ = some (.slice (some ⟨bx, o, none⟩) n c) := (HK.out.below hbw HK.out.lt).cell 0
        have x0 : y2.cell? ⟨gx, 0, none⟩ = some (.string xn) := (HXB.out.below hbw HXB.out.lt).cell 0
        have x1 : y2.cell? ⟨gx, 1, none⟩ = some (.string xt) := (HXB.out.below hbw HXB.out.lt).cell 1
        have x2 : y2.cell? ⟨gx, 2, none⟩ = some (.int .i64 xc) := (HXB.out.below hbw HXB.out.lt).cell 2
        have x3 : y2.cell? ⟨gx, 3, none⟩ = some (.int .i64 xe) := (HXB.out.below hbw HXB.out.lt).cell 3
        have x4 : y2.cell? ⟨gx, 4, none⟩ = some (.int .i64 xu) := (HXB.out.below hbw HXB.out.lt).cell 4
        have x5 : y2.cell? ⟨gx, 5, none⟩ = some (.bool xh) := (HXB.out.below hbw HXB.out.lt).cell 5
        obtain ⟨c0, c1, c2', c3, c4, c5⟩ := HC.out y2 hbw
        try dsimp only at c0 c1 c2' c3 c4 c5
        clear hbw
        have HOA := Lib.hid (HOy2.out.on ((Below.refl y2.heap.size y2).alloc (Nat.le_refl _) (.cells #[.string yn, .string yt, .int .i64 yc, .int .i64 ye, .int .i64 yu, .bool yh] 32)))
        have HRX := Lib.hid (Rw.bk (f := lsc) (k := 6) (x := ⟨yn, yt, yc, ye, yu, yh⟩) (Bk.new y2 32 #[.string yn, .string yt, .int .i64 yc, .int .i64 ye, .int .i64 yu, .bool yh]))
        have HBA := Lib.hid (HBy2.out.alloc HBy2.out.size (.cells #[.string yn, .string yt, .int .i64 yc, .int .i64 ye, .int .i64 yu, .bool yh] 32))
        go_wp2_with (at_builtin; refine wp_rows0 roL rfl (.tmp 46) (.tmp 54) rfl (m + 1) rfl (by rw [List.length_append, HM.out]; rfl) HOA.out [⟨yn, yt, yc, ye, yu, yh⟩] (some ⟨y2.heap.size, 0, none⟩) 1 1 rfl rfl (fun h => by cases h) HRX.out (by omega) HBA.out.size (m + 1 + 1) rfl ?_; intro Aw9 cw9 w9 ho9 hg9 hb9; have HOw9 := Lib.hid ho9; have HBw9 := Lib.hid (HBA.out.trans hb9); clear ho9 hg9 hb9 HOA HRX HBA)
        go_roundw
        case rel => exact ⟨i + 1, m + 1 + 1, true, Aw9, cw9, ((ol ++ [⟨xn, xt, xc, xe, xu, xh⟩]) ++ [⟨yn, yt, yc, ye, yu, yh⟩]), by omega, by first | rfl | go_num, rfl, by go_num, Lib.hid (by rw [HS2.out]; simp), Lib.hid (by rw [List.length_append, List.length_append, HM.out]; rfl), HOw9, HBw9⟩
        case measure => simp [intOf]; omega
      case pos.false.false.true =>
        have HS2 := Lib.hid HST.out
        clear HST HQ
        go_wp2
        go_quiet (fail)
        refine gen_q13 (fun y => OL13 y u1.heap.size A2 c2 ol ∧ Below u1.heap.size u1 y) (by first | exact ⟨HO.out, HB.out⟩ | exact ⟨HO.out.on (below_dn _), HB.out.trans ((below_dn _).mono HB.out.size)⟩) (fun y1 hy => ?_)
        have HOy1 := Lib.hid hy.1
        have HBy1 := Lib.hid hy.2
        clear hy
        clear e0 x0 x1 x2 x3 x4 x5 c0 c1 c2' c3 c4 c5
        have hbw := HBy1.out
        have e0 : y1.cell? ⟨bb, 0, none⟩ = some (.slice (some ⟨bx, o, none⟩) n c) := (HK.out.below hbw HK.out.lt).cell 0
        have x0 : y1.cell? ⟨gx, 0, none⟩ = some (.string xn) := (HXB.out.below hbw HXB.out.lt).cell 0
        have x1 : y1.cell? ⟨gx, 1, none⟩ = some (.string xt) := (HXB.out.below hbw HXB.out.lt).cell 1
        have x2 : y1.cell? ⟨gx, 2, none⟩ = some (.int .i64 xc) := (HXB.out.below hbw HXB.out.lt).cell 2
        have x3 : y1.cell? ⟨gx, 3, none⟩ = some (.int .i64 xe) := (HXB.out.below hbw HXB.out.lt).cell 3
        have x4 : y1.cell? ⟨gx, 4, none⟩ = some (.int .i64 xu) := (HXB.out.below hbw HXB.out.lt).cell 4
        have x5 : y1.cell? ⟨gx, 5, none⟩ = some (.bool xh) := (HXB.out.below hbw HXB.out.lt).cell 5
        obtain ⟨c0, c1, c2', c3, c4, c5⟩ := HC.out y1 hbw
        try dsimp only at c0 c1 c2' c3 c4 c5
        clear hbw
        have HOA := Lib.hid (HOy1.out.on ((Below.refl y1.heap.size y1).alloc (Nat.le_refl _) (.cells #[.string xn, .string xt, .int .i64 xc, .int .i64 xe, .int .i64 xu, .bool xh] 32)))
        have HRX := Lib.hid (Rw.bk (f := lsc) (k := 6) (x := ⟨xn, xt, xc, xe, xu, xh⟩) (Bk.new y1 32 #[.string xn, .string xt, .int .i64 xc, .int .i64 xe, .int .i64 xu, .bool xh]))
        have HBA := Lib.hid (HBy1.out.alloc HBy1.out.size (.cells #[.string xn, .string xt, .int .i64 xc, .int .i64 xe, .int .i64 xu, .bool xh] 32))
        go_wp2_with (at_builtin; refine wp_rows0 roL rfl (.tmp 31) (.tmp 33) rfl (m) rfl HM.out HOA.out [⟨xn, xt, xc, xe, xu, xh⟩] (some ⟨y1.heap.size, 0, none⟩) 1 1 rfl rfl (fun h => by cases h) HRX.out (by omega) HBA.out.size (m + 1) rfl ?_; intro Aw8 cw8 w8 ho9 hg9 hb9; have HOw8 := Lib.hid ho9; have HBw8 := Lib.hid (HBA.out.trans hb9); clear ho9 hg9 hb9 HOA HRX HBA)
        clear e0 x0 x1 x2 x3 x4 x5 c0 c1 c2' c3 c4 c5
        have hbw := HBw8.out
        have e0 : w8.cell? ⟨bb, 0, none⟩ = some (.slice (some ⟨bx, o, none⟩) n c) := (HK.out.below hbw HK.out.lt).cell 0
        have x0 : w8.cell? ⟨gx, 0, none⟩ = some (.string xn) := (HXB.out.below hbw HXB.out.lt).cell 0
        have x1 : w8.cell? ⟨gx, 1, none⟩ = some (.string xt) := (HXB.out.below hbw HXB.out.lt).cell 1
        have x2 : w8.cell? ⟨gx, 2, none⟩ = some (.int .i64 xc) := (HXB.out.below hbw HXB.out.lt).cell 2
        have x3 : w8.cell? ⟨gx, 3, none⟩ = some (.int .i64 xe) := (HXB.out.below hbw HXB.out.lt).cell 3
        have x4 : w8.cell? ⟨gx, 4, none⟩ = some (.int .i64 xu) := (HXB.out.below hbw HXB.out.lt).cell 4
        have x5 : w8.cell? ⟨gx, 5, none⟩ = some (.bool xh) := (HXB.out.below hbw HXB.out.lt).cell 5
        obtain ⟨c0, c1, c2', c3, c4, c5⟩ := HC.out w8 hbw
        try dsimp only at c0 c1 c2' c3 c4 c5
        clear hbw
        go_quiet (fail)
        refine gen_q13 (fun y => OL13 y u1.heap.size Aw8 cw8 (ol ++ [⟨xn, xt, xc, xe, xu, xh⟩]) ∧ Below u1.heap.size u1 y) (by first | exact ⟨HOw8.out, HBw8.out⟩ | exact ⟨HOw8.out.on (below_dn _), HBw8.out.trans ((below_dn _).mono HBw8.out.size)⟩) (fun y2 hy => ?_)
        have HOy2 := Lib.hid hy.1
        have HBy2 := Lib.hid hy.2
        clear hy
        clear e0 x0 x1 x2 x3 x4 x5 c0 c1 c2' c3 c4 c5
        have hbw := HBy2.out
        have e0 : y2.cell? ⟨bb, 0, none⟩ = some (.slice (some ⟨bx, o, none⟩) n c) := (HK.out.below hbw HK.out.lt).cell 0
        have x0 : y2.cell? ⟨gx, 0, none⟩ = some (.string xn) := (HXB.out.below hbw HXB.out.lt).cell 0
        have x1 : y2.cell? ⟨gx, 1, none⟩ = some (.string xt) := (HXB.out.below hbw HXB.out.lt).cell 1
        have x2 : y2.cell? ⟨gx, 2, none⟩ = some (.int .i64 xc) := (HXB.out.below hbw HXB.out.lt).cell 2
        have x3 : y2.cell? ⟨gx, 3, none⟩ = some (.int .i64 xe) := (HXB.out.below hbw HXB.out.lt).cell 3
        have x4 : y2.cell? ⟨gx, 4, none⟩ = some (.int .i64 xu) := (HXB.out.below hbw HXB.out.lt).cell 4
        have x5 : y2.cell? ⟨gx, 5, none⟩ = some (.bool xh) := (HXB.out.below hbw HXB.out.lt).cell 5
        obtain ⟨c0, c1, c2', c3, c4, c5⟩ := HC.out y2 hbw
        try dsimp only at c0 c1 c2' c3 c4 c5
        clear hbw
        go_wp2
        go_roundw
        case rel => exact ⟨i + 1, m + 1, true, Aw8, cw8, (ol ++ [⟨xn, xt, xc, xe, xu, xh⟩]), by omega, by first | rfl | go_num, rfl, by go_num, Lib.hid (by rw [HS2.out]; simp), Lib.hid (by rw [List.length_append, HM.out]; rfl), HOy2, HBy2⟩
        case measure => simp [intOf]; omega
      case pos.false.true.false =>
        have HS2 := Lib.hid HST.out
        clear HST HQ
        go_wp2
        go_quiet (fail)
        refine gen_q13 (fun y => OL13 y u1.heap.size A2 c2 ol ∧ Below u1.heap.size u1 y) (by first | exact ⟨HO.out, HB.out⟩ | exact ⟨HO.out.on (below_dn _), HB.out.trans ((below_dn _).mono HB.out.size)⟩) (fun y1 hy => ?_)
        have HOy1 := Lib.hid hy.1
        have HBy1 := Lib.hid hy.2
        clear hy
        clear e0 x0 x1 x2 x3 x4 x5 c0 c1 c2' c3 c4 c5
        have hbw := HBy1.out
        have e0 : y1.cell? ⟨bb, 0, none⟩ = some (.slice (some ⟨bx, o, none⟩) n c) := (HK.out.below hbw HK.out.lt).cell 0
        have x0 : y1.cell? ⟨gx, 0, none⟩ = some (.string xn) := (HXB.out.below hbw HXB.out.lt).cell 0
        have x1 : y1.cell? ⟨gx, 1, none⟩ = some (.string xt) := (HXB.out.below hbw HXB.out.lt).cell 1
        have x2 : y1.cell? ⟨gx, 2, none⟩ = some (.int .i64 xc) := (HXB.out.below hbw HXB.out.lt).cell 2
        have x3 : y1.cell? ⟨gx, 3, none⟩ = some (.int .i64 xe) := (HXB.out.below hbw HXB.out.lt).cell 3
        have x4 : y1.cell? ⟨gx, 4, none⟩ = some (.int .i64 xu) := (HXB.out.below hbw HXB.out.lt).cell 4
        have x5 : y1.cell? ⟨gx, 5, none⟩ = some (.bool xh) := (HXB.out.below hbw HXB.out.lt).cell 5
        obtain ⟨c0, c1, c2', c3, c4, c5⟩ := HC.out y1 hbw
        try dsimp only at c0 c1 c2' c3 c4 c5
        clear hbw
        go_wp2
        go_quiet (fail)
        refine gen_q13 (fun y => OL13 y u1.heap.size A2 c2 ol ∧ Below u1.heap.size u1 y) (by first | exact ⟨HOy1.out, HBy1.out⟩ | exact ⟨HOy1.out.on (below_dn _), HBy1.out.trans ((below_dn _).mono HBy1.out.size)⟩) (fun y2 hy => ?_)
        have HOy2 := Lib.hid hy.1
        have HBy2 := Lib.hid hy.2
        clear hy
        clear e0 x0 x1 x2 x3 x4 x5 c0 c1 c2' c3 c4 c5
        have hbw := HBy2.out
        have e0 : y2.cell? ⟨bb, 0, none⟩ = some (.slice (some ⟨bx, o, none⟩) n c) := (HK.out.below hbw HK.out.lt).cell 0
        have x0 : y2.cell? ⟨gx, 0, none⟩ = some (.string xn) := (HXB.out.below hbw HXB.out.lt).cell 0
        have x1 : y2.cell? ⟨gx, 1, none⟩ = some (.string xt) := (HXB.out.below hbw HXB.out.lt).cell 1
        have x2 : y2.cell? ⟨gx, 2, none⟩ = some (.int .i64 xc) := (HXB.out.below hbw HXB.out.lt).cell 2
        have x3 : y2.cell? ⟨gx, 3, none⟩ = some (.int .i64 xe) := (HXB.out.below hbw HXB.out.lt).cell 3
        have x4 : y2.cell? ⟨gx, 4, none⟩ = some (.int .i64 xu) := (HXB.out.below hbw HXB.out.lt).cell 4
        have x5 : y2.cell? ⟨gx, 5, none⟩ = some (.bool xh) := (HXB.out.below hbw HXB.out.lt).cell 5
        obtain ⟨c0, c1, c2', c3, c4, c5⟩ := HC.out y2 hbw
        try dsimp only at c0 c1 c2' c3 c4 c5
        clear hbw
        have HOA := Lib.hid (HOy2.out.on ((Below.refl y2.heap.size y2).alloc (Nat.le_refl _) (.cells #[.string yn, .string yt, .int .i64 yc, .int .i64 ye, .int .i64 yu, .bool yh] 32)))
        have HRX := Lib.hid (Rw.bk (f := lsc) (k := 6) (x := ⟨yn, yt, yc, ye, yu, yh⟩) (Bk.new y2 32 #[.string yn, .string yt, .int .i64 yc, .int .i64 ye, .int .i64 yu, .bool yh]))
        have HBA := Lib.hid (HBy2.out.alloc HBy2.out.size (.cells #[.string yn, .string yt, .int .i64 yc, .int .i64 ye, .int .i64 yu, .bool yh] 32))
        go_wp2_with (at_builtin; refine wp_rows0 roL rfl (.tmp 46) (.tmp 54) rfl (m) rfl HM.out HOA.out [⟨yn, yt, yc, ye, yu, yh⟩] (some ⟨y2.heap.size, 0, none⟩) 1 1 rfl rfl (fun h => by cases h) HRX.out (by omega) HBA.out.size (m + 1) rfl ?_; intro Aw9 cw9 w9 ho9 hg9 hb9; have HOw9 := Lib.hid ho9; have HBw9 := Lib.hid (HBA.out.trans hb9); clear ho9 hg9 hb9 HOA HRX HBA)
        go_roundw
        case rel => exact ⟨i + 1, m + 1, false, Aw9, cw9, (ol ++ [⟨yn, yt, yc, ye, yu, yh⟩]), by omega, by first | rfl | go_num, rfl, by go_num, Lib.hid (by rw [HS2.out]; simp), Lib.hid (by rw [List.length_append, HM.out]; rfl), HOw9, HBw9⟩
        case measure => simp [intOf]; omega
      case pos.false.true.true =>
        exact absurd (HQ.out rfl) (by simp)
      case pos.true.false.false =>
        have HS2 := Lib.hid HST.out
        clear HST HQ
        go_wp2
        go_quiet (fail)
        refine gen_q13 (fun y => OL13 y u1.heap.size A2 c2 ol ∧ Below u1.heap.size u1 y) (by first | exact ⟨HO.out, HB.out⟩ | exact ⟨HO.out.on (below_dn _), HB.out.trans ((below_dn _).mono HB.out.size)⟩) (fun y1 hy => ?_)
        have HOy1 := Lib.hid hy.1
        have HBy1 := Lib.hid hy.2
        clear hy
        clear e0 x0 x1 x2 x3 x4 x5 c0 c1 c2' c3 c4 c5
        have hbw := HBy1.out
        have e0 : y1.cell? ⟨bb, 0, none⟩ = some (.slice (some ⟨bx, o, none⟩) n c) := (HK.out.below hbw HK.out.lt).cell 0
        have x0 : y1.cell? ⟨gx, 0, none⟩ = some (.string xn) := (HXB.out.below hbw HXB.out.lt).cell 0
        have x1 : y1.cell? ⟨gx, 1, none⟩ = some (.string xt) := (HXB.out.below hbw HXB.out.lt).cell 1
        have x2 : y1.cell? ⟨gx, 2, none⟩ = some (.int .i64 xc) := (HXB.out.below hbw HXB.out.lt).cell 2
        have x3 : y1.cell? ⟨gx, 3, none⟩ = some (.int .i64 xe) := (HXB.out.below hbw HXB.out.lt).cell 3
        have x4 : y1.cell? ⟨gx, 4, none⟩ = some (.int .i64 xu) := (HXB.out.below hbw HXB.out.lt).cell 4
        have x5 : y1.cell? ⟨gx, 5, none⟩ = some (.bool xh) := (HXB.out.below hbw HXB.out.lt).cell 5
        obtain ⟨c0, c1, c2', c3, c4, c5⟩ := HC.out y1 hbw
        try dsimp only at c0 c1 c2' c3 c4 c5
        clear hbw
        go_wp2
        go_quiet (fail)
        refine gen_q13 (fun y => OL13 y u1.heap.size A2 c2 ol ∧ Below u1.heap.size u1 y) (by first | exact ⟨HOy1.out, HBy1.out⟩ | exact ⟨HOy1.out.on (below_dn _), HBy1.out.trans ((below_dn _).mono HBy1.out.size)⟩) (fun y2 hy => ?_)
        have HOy2 := Lib.hid hy.1
        have HBy2 := Lib.hid hy.2
        clear hy
        clear e0 x0 x1 x2 x3 x4 x5 c0 c1 c2' c3 c4 c5
        have hbw := HBy2.out
        have e0 : y2.cell? ⟨bb, 0, none⟩ = some (.slice (some ⟨bx, o, none⟩) n c) := (HK.out.below hbw HK.out.lt).cell 0
        have x0 : y2.cell? ⟨gx, 0, none⟩ = some (.string xn) := (HXB.out.below hbw HXB.out.lt).cell 0
        have x1 : y2.cell? ⟨gx, 1, none⟩ = some (.string xt) := (HXB.out.below hbw HXB.out.lt).cell 1
        have x2 : y2.cell? ⟨gx, 2, none⟩ = some (.int .i64 xc) := (HXB.out.below hbw HXB.out.lt).cell 2
        have x3 : y2.cell? ⟨gx, 3, none⟩ = some (.int .i64 xe) := (HXB.out.below hbw HXB.out.lt).cell 3
        have x4 : y2.cell? ⟨gx, 4, none⟩ = some (.int .i64 xu) := (HXB.out.below hbw HXB.out.lt).cell 4
        have x5 : y2.cell? ⟨gx, 5, none⟩ = some (.bool xh) := (HXB.out.below hbw HXB.out.lt).cell 5
        obtain ⟨c0, c1, c2', c3, c4, c5⟩ := HC.out y2 hbw
        try dsimp only at c0 c1 c2' c3 c4 c5
        clear hbw
        have HOA := Lib.hid (HOy2.out.on ((Below.refl y2.heap.size y2).alloc (Nat.le_refl _) (.cells #[.string yn, .string yt, .int .i64 yc, .int .i64 ye, .int .i64 yu, .bool yh] 32)))
        have HRX := Lib.hid (Rw.bk (f := lsc) (k := 6) (x := ⟨yn, yt, yc, ye, yu, yh⟩) (Bk.new y2 32 #[.string yn, .string yt, .int .i64 yc, .int .i64 ye, .int .i64 yu, .bool yh]))
        have HBA := Lib.hid (HBy2.out.alloc HBy2.out.size (.cells #[.string yn, .string yt, .int .i64 yc, .int .i64 ye, .int .i64 yu, .bool yh] 32))
        go_wp2_with (at_builtin; refine wp_rows0 roL rfl (.tmp 46) (.tmp 54) rfl (m) rfl HM.out HOA.out [⟨yn, yt, yc, ye, yu, yh⟩] (some ⟨y2.heap.size, 0, none⟩) 1 1 rfl rfl (fun h => by cases h) HRX.out (by omega) HBA.out.size (m + 1) rfl ?_; intro Aw9 cw9 w9 ho9 hg9 hb9; have HOw9 := Lib.hid ho9; have HBw9 := Lib.hid (HBA.out.trans hb9); clear ho9 hg9 hb9 HOA HRX HBA)
        go_roundw
        case rel => exact ⟨i + 1, m + 1, true, Aw9, cw9, (ol ++ [⟨yn, yt, yc, ye, yu, yh⟩]), by omega, by first | rfl | go_num, rfl, by go_num, Lib.hid (by rw [HS2.out]; simp), Lib.hid (by rw [List.length_append, HM.out]; rfl), HOw9, HBw9⟩
        case measure => simp [intOf]; omega
      case pos.true.false.true =>
        have HS2 := Lib.hid HST.out
        clear HST HQ
        go_wp2
        go_quiet (fail)
        refine gen_q13 (fun y => OL13 y u1.heap.size A2 c2 ol ∧ Below u1.heap.size u1 y) (by first | exact ⟨HO.out, HB.out⟩ | exact ⟨HO.out.on (below_dn _), HB.out.trans ((below_dn _).mono HB.out.size)⟩) (fun y1 hy => ?_)
        have HOy1 := Lib.hid hy.1
        have HBy1 := Lib.hid hy.2
        clear hy
        clear e0 x0 x1 x2 x3 x4 x5 c0 c1 c2' c3 c4 c5
        have hbw := HBy1.out
        have e0 : y1.cell? ⟨bb, 0, none⟩ = some (.slice (some ⟨bx, o, none⟩) n c) := (HK.out.below hbw HK.out.lt).cell 0
        have x0 : y1.cell? ⟨gx, 0, none⟩ = some (.string xn) := (HXB.out.below hbw HXB.out.lt).cell 0
        have x1 : y1.cell? ⟨gx, 1, none⟩ = some (.string xt) := (HXB.out.below hbw HXB.out.lt).cell 1
        have x2 : y1.cell? ⟨gx, 2, none⟩ = some (.int .i64 xc) := (HXB.out.below hbw HXB.out.lt).cell 2
        have x3 : y1.cell? ⟨gx, 3, none⟩ = some (.int .i64 xe) := (HXB.out.below hbw HXB.out.lt).cell 3
        have x4 : y1.cell? ⟨gx, 4, none⟩ = some (.int .i64 xu) := (HXB.out.below hbw HXB.out.lt).cell 4
        have x5 : y1.cell? ⟨gx, 5, none⟩ = some (.bool xh) := (HXB.out.below hbw HXB.out.lt).cell 5
        obtain ⟨c0, c1, c2', c3, c4, c5⟩ := HC.out y1 hbw
        try dsimp only at c0 c1 c2' c3 c4 c5
        clear hbw
        go_wp2
        go_quiet (fail)
        refine gen_q13 (fun y => OL13 y u1.heap.size A2 c2 ol ∧ Below u1.heap.size u1 y) (by first | exact ⟨HOy1.out, HBy1.out⟩ | exact ⟨HOy1.out.on (below_dn _), HBy1.out.trans ((below_dn _).mono HBy1.out.size)⟩) (fun y2 hy => ?_)
        have HOy2 := Lib.hid hy.1
        have HBy2 := Lib.hid hy.2
        clear hy
        clear e0 x0 x1 x2 x3 x4 x5 c0 c1 c2' c3 c4 c5
        have hbw := HBy2.out
        have e0 : y2.cell? ⟨bb, 0, none⟩ = some (.slice (some ⟨bx, o, none⟩) n c) := (HK.out.below hbw HK.out.lt).cell 0
        have x0 : y2.cell? ⟨gx, 0, none⟩ = some (.string xn) := (HXB.out.below hbw HXB.out.lt).cell 0
        have x1 : y2.cell? ⟨gx, 1, none⟩ = some (.string xt) := (HXB.out.below hbw HXB.out.lt).cell 1
        have x2 : y2.cell? ⟨gx, 2, none⟩ = some (.int .i64 xc) := (HXB.out.below hbw HXB.out.lt).cell 2
        have x3 : y2.cell? ⟨gx, 3, none⟩ = some (.int .i64 xe) := (HXB.out.below hbw HXB.out.lt).cell 3
        have x4 : y2.cell? ⟨gx, 4, none⟩ = some (.int .i64 xu) := (HXB.out.below hbw HXB.out.lt).cell 4
        have x5 : y2.cell? ⟨gx, 5, none⟩ = some (.bool xh) := (HXB.out.below hbw HXB.out.lt).cell 5
        obtain ⟨c0, c1, c2', c3, c4, c5⟩ := HC.out y2 hbw
        try dsimp only at c0 c1 c2' c3 c4 c5
        clear hbw
        go_wp2
        go_roundw
        case rel => exact ⟨i + 1, m, true, A2, c2, ol, by omega, by first | rfl | go_num, rfl, by go_num, Lib.hid (by rw [HS2.out]; simp), Lib.hid (HM.out), HOy2, HBy2⟩
        case measure => simp [intOf]; omega
      case pos.true.true.false =>
        have HS2 := Lib.hid HST.out
        clear HST HQ
        go_wp2
        go_quiet (fail)
        refine gen_q13 (fun y => OL13 y u1.heap.size A2 c2 ol ∧ Below u1.heap.size u1 y) (by first | exact ⟨HO.out, HB.out⟩ | exact ⟨HO.out.on (below_dn _), HB.out.trans ((below_dn _).mono HB.out.size)⟩) (fun y1 hy => ?_)
        have HOy1 := Lib.hid hy.1
        have HBy1 := Lib.hid hy.2
        clear hy
        clear e0 x0 x1 x2 x3 x4 x5 c0 c1 c2' c3 c4 c5
        have hbw := HBy1.out
        have e0 : y1.cell? ⟨bb, 0, none⟩ = some (.slice (some ⟨bx, o, none⟩) n c) := (HK.out.below hbw HK.out.lt).cell 0
        have x0 : y1.cell? ⟨gx, 0, none⟩ = some (.string xn) := (HXB.out.below hbw HXB.out.lt).cell 0
        have x1 : y1.cell? ⟨gx, 1, none⟩ = some (.string xt) := (HXB.out.below hbw HXB.out.lt).cell 1
        have x2 : y1.cell? ⟨gx, 2, none⟩ = some (.int .i64 xc) := (HXB.out.below hbw HXB.out.lt).cell 2
        have x3 : y1.cell? ⟨gx, 3, none⟩ = some (.int .i64 xe) := (HXB.out.below hbw HXB.out.lt).cell 3
        have x4 : y1.cell? ⟨gx, 4, none⟩ = some (.int .i64 xu) := (HXB.out.below hbw HXB.out.lt).cell 4
        have x5 : y1.cell? ⟨gx, 5, none⟩ = some (.bool xh) := (HXB.out.below hbw HXB.out.lt).cell 5
        obtain ⟨c0, c1, c2', c3, c4, c5⟩ := HC.out y1 hbw
        try dsimp only at c0 c1 c2' c3 c4 c5
        clear hbw
        go_wp2
        go_quiet (fail)
        refine gen_q13 (fun y => OL13 y u1.heap.size A2 c2 ol ∧ Below u1.heap.size u1 y) (by first | exact ⟨HOy1.out, HBy1.out⟩ | exact ⟨HOy1.out.on (below_dn _), HBy1.out.trans ((below_dn _).mono HBy1.out.size)⟩) (fun y2 hy => ?_)
        have HOy2 := Lib.hid hy.1
        have HBy2 := Lib.hid hy.2
        clear hy
        clear e0 x0 x1 x2 x3 x4 x5 c0 c1 c2' c3 c4 c5
        have hbw := HBy2.out
        have e0 : y2.cell? ⟨bb, 0, none⟩ = some (.slice (some ⟨bx, o, none⟩) n c) := (HK.out.below hbw HK.out.lt).cell 0
        have x0 : y2.cell? ⟨gx, 0, none⟩ = some (.string xn) := (HXB.out.below hbw HXB.out.lt).cell 0
        have x1 : y2.cell? ⟨gx, 1, none⟩ = some (.string xt) := (HXB.out.below hbw HXB.out.lt).cell 1
        have x2 : y2.cell? ⟨gx, 2, none⟩ = some (.int .i64 xc) := (HXB.out.below hbw HXB.out.lt).cell 2
        have x3 : y2.cell? ⟨gx, 3, none⟩ = some (.int .i64 xe) := (HXB.out.below hbw HXB.out.lt).cell 3
        have x4 : y2.cell? ⟨gx, 4, none⟩ = some (.int .i64 xu) := (HXB.out.below hbw HXB.out.lt).cell 4
        have x5 : y2.cell? ⟨gx, 5, none⟩ = some (.bool xh) := (HXB.out.below hbw HXB.out.lt).cell 5
        obtain ⟨c0, c1, c2', c3, c4, c5⟩ := HC.out y2 hbw
        try dsimp only at c0 c1 c2' c3 c4 c5
        clear hbw
        have HOA := Lib.hid (HOy2.out.on ((Below.refl y2.heap.size y2).alloc (Nat.le_refl _) (.cells #[.string yn, .string yt, .int .i64 yc, .int .i64 ye, .int .i64 yu, .bool yh] 32)))
        have HRX := Lib.hid (Rw.bk (f := lsc) (k := 6) (x := ⟨yn, yt, yc, ye, yu, yh⟩) (Bk.new y2 32 #[.string yn, .string yt, .int .i64 yc, .int .i64 ye, .int .i64 yu, .bool yh]))
        have HBA := Lib.hid (HBy2.out.alloc HBy2.out.size (.cells #[.string yn, .string yt, .int .i64 yc, .int .i64 ye, .int .i64 yu, .bool yh] 32))
        go_wp2_with (at_builtin; refine wp_rows0 roL rfl (.tmp 46) (.tmp 54) rfl (m) rfl HM.out HOA.out [⟨yn, yt, yc, ye, yu, yh⟩] (some ⟨y2.heap.size, 0, none⟩) 1 1 rfl rfl (fun h => by cases h) HRX.out (by omega) HBA.out.size (m + 1) rfl ?_; intro Aw9 cw9 w9 ho9 hg9 hb9; have HOw9 := Lib.hid ho9; have HBw9 := Lib.hid (HBA.out.trans hb9); clear ho9 hg9 hb9 HOA HRX HBA)
        go_roundw
        case rel => exact ⟨i + 1, m + 1, true, Aw9, cw9, (ol ++ [⟨yn, yt, yc, ye, yu, yh⟩]), by omega, by first | rfl | go_num, rfl, by go_num, Lib.hid (by rw [HS2.out]; simp), Lib.hid (by rw [List.length_append, HM.out]; rfl), HOw9, HBw9⟩
        case measure => simp [intOf]; omega
      case pos.true.true.true =>
        exact absurd (HQ.out rfl) (by simp)
    · have hi2 : ¬ (i : Int) < (n : Int) := by omega
      have HTL := Lib.hid (show l.take i = l from List.take_of_length_le (by rw [HN.out]; omega))
      have f0 := HKW.out.frozen 0
      have hF := HF.out
      rw [HTL.out] at hF
      have HPU := Lib.hid HPT.out
      rw [hF] at HPU
      dsimp only at HPU
      have x0 : wr.cell? ⟨gx, 0, none⟩ = some (.string xn) := HXW.out.cell 0
      have x1 : wr.cell? ⟨gx, 1, none⟩ = some (.string xt) := HXW.out.cell 1
      have x2 : wr.cell? ⟨gx, 2, none⟩ = some (.int .i64 xc) := HXW.out.cell 2
      have x3 : wr.cell? ⟨gx, 3, none⟩ = some (.int .i64 xe) := HXW.out.cell 3
      have x4 : wr.cell? ⟨gx, 4, none⟩ = some (.int .i64 xu) := HXW.out.cell 4
      have x5 : wr.cell? ⟨gx, 5, none⟩ = some (.bool xh) := HXW.out.cell 5
      clear hF
      have HBU := Lib.hid (HB1.out.trans (HB.out.mono HB1.out.size))
      cases d with
      | true =>
        go_wp2
        go_end0
        have hset := HKW.out.set 0 (.slice A2 m c2)
        have hlt := HLT.out
        have hM := HM.out
        have hs := HB1.out.size
        have hp : ol = ptL (⟨xn, xt, xc, xe, xu, xh⟩ : Ls) l := by simpa using HPU.out
        refine ⟨rfl, ⟨⟨A2, c2, ?_, ?_⟩, hlt.2.2, ?_⟩, ?_⟩
        · rw [← hp, hM]
          simpa only [List.setIfInBounds_toArray, List.set_cons_zero] using hset
        · rw [← hp]
          exact (HO.out.set (p := ⟨bb, 0, none⟩) (by show bb < u1.heap.size; omega) _).weak (by omega)
        · have := HBU.out.size
          simp [World.setCell]; omega
        · exact (Ke.of HBU.out).nil.set (p := ⟨bb, 0, none⟩) (List.mem_singleton.2 rfl) _
      | false =>
        have HOA := Lib.hid (HO.out.on ((Below.refl wr.heap.size wr).alloc (Nat.le_refl _) (.cells #[.string xn, .string xt, .int .i64 xc, .int .i64 xe, .int .i64 xu, .bool xh] 32)))
        have HRX := Lib.hid (Rw.bk (f := lsc) (k := 6) (x := ⟨xn, xt, xc, xe, xu, xh⟩) (Bk.new wr 32 #[.string xn, .string xt, .int .i64 xc, .int .i64 xe, .int .i64 xu, .bool xh]))
        have HBA := Lib.hid (HB.out.alloc HB.out.size (.cells #[.string xn, .string xt, .int .i64 xc, .int .i64 xe, .int .i64 xu, .bool xh] 32))
        go_upto_region 13 with (at_builtin; refine wp_rows0 roL rfl (.tmp 58) (.tmp 60) rfl (m) rfl HM.out HOA.out [⟨xn, xt, xc, xe, xu, xh⟩] (some ⟨wr.heap.size, 0, none⟩) 1 1 rfl rfl (fun h => by cases h) HRX.out (by omega) HBA.out.size (m + 1) rfl ?_; intro Aw9 cw9 w9 ho9 hg9 hb9; have HOw9 := Lib.hid ho9; have HBw9 := Lib.hid (HBA.out.trans hb9); clear ho9 hg9 hb9 HOA HRX HBA)
        have f0 := (HK.out.below HBw9.out HK.out.lt).frozen 0
        have k0 := (HK.out.below HBw9.out HK.out.lt).cell 0
        go_wp2
        go_end0
        have hset := (HK.out.below HBw9.out HK.out.lt).set 0 (.slice Aw9 (m + 1) cw9)
        have hlt := HLT.out
        have hM := HM.out
        have hs := HB1.out.size
        have hp : ol ++ [(⟨xn, xt, xc, xe, xu, xh⟩ : Ls)] = ptL (⟨xn, xt, xc, xe, xu, xh⟩ : Ls) l := by simpa using HPU.out
        have hM2 : (ol ++ [(⟨xn, xt, xc, xe, xu, xh⟩ : Ls)]).length = m + 1 := by rw [List.length_append, hM]; rfl
        have HBV := Lib.hid (HB1.out.trans (HBw9.out.mono HB1.out.size))
        refine ⟨rfl, ⟨⟨Aw9, cw9, ?_, ?_⟩, hlt.2.2, ?_⟩, ?_⟩
        · rw [← hp, hM2]
          simpa only [List.setIfInBounds_toArray, List.set_cons_zero] using hset
        · rw [← hp]
          exact (HOw9.out.set (p := ⟨bb, 0, none⟩) (by show bb < u1.heap.size; omega) _).weak (by omega)
        · have := HBV.out.size
          simp [World.setCell]; omega
        · exact (Ke.of HBV.out).nil.set (p := ⟨bb, 0, none⟩) (List.mem_singleton.2 rfl) _
end Go.Proofs.Ytpbobmiajjgekaa
