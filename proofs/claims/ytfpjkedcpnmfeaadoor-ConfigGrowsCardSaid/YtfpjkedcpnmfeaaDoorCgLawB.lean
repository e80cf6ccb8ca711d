/- ConfigBack: the walk. (Written by gen_cgb.py.) -/
import Derived.Test.YtfpjkedcpnmfeaaDoorCgH
import Derived.Test.YtfpjkedcpnmfeaaDoorCgG
import Derived.Test.YtfpjkedcpnmfeaaDoorCgSame
import Derived.Test.YtfpjkedcpnmfeaaDoorCgLawL
import Derived.Test.YtfpjkedcpnmfeaaDoorCgLawC
namespace Go.Proofs.YtfpjkedcpnmfeaaDoor
set_option linter.unusedVariables false
set_option linter.unusedSimpArgs false
open Go.RowKit

theorem print_none {c : Cg} (h : cfgB c = false) : printT c = [] := by unfold printT; rw [h]; rfl
theorem print_some {c : Cg} (h : cfgB c = true) : (bs (printT c)).toList.isEmpty = false := by
  rw [bs_list]
  unfold printT
  rw [if_pos h, cfgLs, textT_cons]
  unfold lineT
  cases joinL 32 (timesW c) <;> rfl
theorem rc_zero (w : World) : RC w zeroCv := ⟨⟨.inl rfl, fun x hx => by cases hx⟩, ⟨Nat.le_refl _, by decide, fun _ => ⟨rfl, rfl⟩⟩⟩
theorem rc_lt {w : World} {x : Cv} (h : RC w x) : netsLt x.cg := fun t ht n hn => by
  obtain ⟨y, hy, rfl⟩ := List.mem_map.1 ht
  exact (h.r.each y hy).lt n hn
/-- Parse of a text that is too long. -/
theorem parse_long (s : ByteArray) (hs : ¬ s.size ≤ 4096) (u : World) : Calls Tryd.prog 12 #[.string s] u fun e u' => e = .returned (.tuple #[.agg #[.int .i64 0, .int .i64 0, .int .i64 0, .int .i64 0, .slice none 0 0], .int .i64 2, .int .i64 0]) ∧ Below u.heap.size u u' :=
  (cparse_ok s u).mono fun e u' hh => by
    obtain ⟨h1, h2⟩ := hh
    rcases h2 with ⟨_, h2⟩ | ⟨h2, _⟩
    · exact ⟨h2, h1⟩
    · exact absurd h2 hs

set_option maxRecDepth 100000 in
set_option maxHeartbeats 16000000 in
theorem walk_ConfigBack (x : Cv) (s : ByteArray) (w : World) (h : InCf w x) (ws : s.size ≤ maxLen) (hG : True) :
    Calls Tryd.prog 3 #[.agg (ccs x), .string s] w fun e w' => e = .returned (.bool true) ∧ Below w.heap.size w w' := by
  unfold maxLen at ws
  have HGR := Lib.hid (fun u (hu : Below w.heap.size w u) => great_ok x u (h.on hu))
  have HRI := Lib.hid (fun u (hu : Below w.heap.size w u) => right_cfg x u (h.rc.on hu))
  have HPR := Lib.hid (fun u (hu : Below w.heap.size w u) => print_ok x u (h.rc.on hu))
  have HRC := Lib.hid h.rc
  have HLT := Lib.hid (rc_lt h.rc)
  have hfit := h.rc.f
  obtain ⟨a0, a1, a2, a3, ts, A, c⟩ := x
  dsimp only at hfit
  obtain ⟨n, hn⟩ : ∃ n, ts.length = n := ⟨_, rfl⟩
  have HN := Lib.hid hn
  have hcap := hfit.cap
  have hmax := hfit.max
  rw [hn] at hcap
  obtain ⟨G, hGG⟩ : ∃ G, Cv.cg ⟨a0, a1, a2, a3, ts, A, c⟩ = G := ⟨_, rfl⟩
  have HG9 := Lib.hid hGG
  rw [hGG] at HRI HPR HLT
  obtain ⟨C, hC⟩ : ∃ C, cfgB G = C := ⟨_, rfl⟩
  rw [hC] at HRI
  have HCC := Lib.hid hC
  obtain ⟨TX, hTX⟩ : ∃ TX, printT G = TX := ⟨_, rfl⟩
  have HTX := Lib.hid hTX
  rw [hTX] at HPR
  simp only [ccs, hn] at HGR HRI HPR ⊢
  have HX := Lib.hid (show Bx w w.heap.size 24 #[.int .i64 a0, .int .i64 a1, .int .i64 a2, .int .i64 a3, .slice A n c] (w.alloc (.cells #[.int .i64 a0, .int .i64 a1, .int .i64 a2, .int .i64 a3, .slice A n c] 24)) from Bx.new w _ _)
  have hn9 : n ≤ 9223372036854775807 := by omega
  clear h hn hfit hC hTX hGG
  obtain ⟨nb, hnb⟩ : ∃ b, decide ((5000 : Int) < (s.size : Int)) = b := ⟨_, rfl⟩
  go_enter Tryd.func3, Tryd.ntmps3
  go_upto_region 2 with (go_at_call 8; refine (chead_ok _).mono ?_; rintro e u1 ⟨rfl, hb⟩; have HX1 := Lib.hid (HX.out.on hb); clear hb)
  obtain ⟨g0, hg0⟩ : ∃ g, w.heap.size = g := ⟨_, rfl⟩
  have HG0 := Lib.hid hg0
  rw [hg0] at HX1 ⊢
  clear hg0
  have e0 : u1.cell? ⟨g0, 0, none⟩ = some (.int .i64 a0) := HX1.out.b.cell 0
  have e1 : u1.cell? ⟨g0, 1, none⟩ = some (.int .i64 a1) := HX1.out.b.cell 1
  have e2 : u1.cell? ⟨g0, 2, none⟩ = some (.int .i64 a2) := HX1.out.b.cell 2
  have e3 : u1.cell? ⟨g0, 3, none⟩ = some (.int .i64 a3) := HX1.out.b.cell 3
  have e4 : u1.cell? ⟨g0, 4, none⟩ = some (.slice A n c) := HX1.out.b.cell 4
  cases nb with
  | true =>
    go_wp2_with (go_at_call 9; (with_reducible refine (HGR.out _ HX1.out.l).mono ?_); rintro e u2 ⟨g, rfl, _, hb⟩; have HX2 := Lib.hid (HX1.out.on hb); clear hb; cases g)
    all_goals go_ret
    all_goals exact ⟨rfl, HX2.out.l⟩
  | false =>
    go_upto_region 4 with (go_at_call 9; (with_reducible refine (HGR.out _ HX1.out.l).mono ?_); rintro e u2 ⟨g, rfl, _, hb⟩; have HX2 := Lib.hid (HX1.out.on hb); clear hb; clear e0 e1 e2 e3 e4; have e0 : u2.cell? ⟨g0, 0, none⟩ = some (.int .i64 a0) := HX2.out.b.cell 0; have e1 : u2.cell? ⟨g0, 1, none⟩ = some (.int .i64 a1) := HX2.out.b.cell 1; have e2 : u2.cell? ⟨g0, 2, none⟩ = some (.int .i64 a2) := HX2.out.b.cell 2; have e3 : u2.cell? ⟨g0, 3, none⟩ = some (.int .i64 a3) := HX2.out.b.cell 3; have e4 : u2.cell? ⟨g0, 4, none⟩ = some (.slice A n c) := HX2.out.b.cell 4; cases g)
    any_goals (go_ret; exact ⟨rfl, HX2.out.l⟩)
    cases C with
    | false =>
      obtain rfl : TX = [] := by rw [← HTX.out]; exact print_none HCC.out
      have hem : (bs []).toList.isEmpty = true := by rw [bs_list]; rfl
      go_upto_region 11 with (first 
        | (go_at_call 10; (with_reducible refine (HPR.out _ HX2.out.l).mono ?_); rintro e u3 ⟨rfl, hb⟩; have HX3 := Lib.hid (HX2.out.on hb); clear hb; clear e0 e1 e2 e3 e4; have e0 : u3.cell? ⟨g0, 0, none⟩ = some (.int .i64 a0) := HX3.out.b.cell 0; have e1 : u3.cell? ⟨g0, 1, none⟩ = some (.int .i64 a1) := HX3.out.b.cell 1; have e2 : u3.cell? ⟨g0, 2, none⟩ = some (.int .i64 a2) := HX3.out.b.cell 2; have e3 : u3.cell? ⟨g0, 3, none⟩ = some (.int .i64 a3) := HX3.out.b.cell 3; have e4 : u3.cell? ⟨g0, 4, none⟩ = some (.slice A n c) := HX3.out.b.cell 4)
        | (go_at_call 11; (with_reducible refine (HRI.out _ HX3.out.l).mono ?_); rintro e u4 ⟨rfl, hb⟩; have HX4 := Lib.hid (HX3.out.on hb); clear hb; clear e0 e1 e2 e3 e4; have e0 : u4.cell? ⟨g0, 0, none⟩ = some (.int .i64 a0) := HX4.out.b.cell 0; have e1 : u4.cell? ⟨g0, 1, none⟩ = some (.int .i64 a1) := HX4.out.b.cell 1; have e2 : u4.cell? ⟨g0, 2, none⟩ = some (.int .i64 a2) := HX4.out.b.cell 2; have e3 : u4.cell? ⟨g0, 3, none⟩ = some (.int .i64 a3) := HX4.out.b.cell 3; have e4 : u4.cell? ⟨g0, 4, none⟩ = some (.slice A n c) := HX4.out.b.cell 4))
      have HXW := Lib.hid HX4.out.l
      clear hem e0 e1 e2 e3 e4 HX2 HX3 HX4
      rcases parse_ways s with ⟨ke, ne, hke, HP⟩ | ⟨hs, cc, hp⟩
      · have HPE := Lib.hid HP
        have hne : ((ke : Int) != 0) = true := by rcases hke with rfl | rfl <;> rfl
        have HSZ := Lib.hid (fun v => same_c zeroCv zeroCv v (rc_zero v) (rc_zero v) rfl)
        simp only [ccs, zeroCv, List.length_nil] at HSZ
        clear HP hke
        go_wp2_with (first
          | (go_at_call 12; (with_reducible refine (HPE.out _).mono ?_); rintro e v1 ⟨rfl, hb⟩; have HY1 := Lib.hid ((HXW.out.trans (hb.mono HXW.out.size)).alloc (HXW.out.trans (hb.mono HXW.out.size)).size (.cells #[.int .i64 0, .int .i64 0, .int .i64 0, .int .i64 0, .slice none 0 0] 24)); clear hb)
          | (go_at_call 13; (with_reducible refine (HSZ.out _).mono ?_); rintro e v2 ⟨rfl, hb⟩; have HY2 := Lib.hid (HY1.out.trans (hb.mono HY1.out.size)); clear hb))
        go_ret
        exact ⟨rfl, HY2.out⟩
      · have HPG := Lib.hid (fun u => parse_get s hs hp u)
        have HIS := Lib.hid (parse_isC s cc hp)
        clear hp hs
        go_upto_region 14 with (go_at_call 12; (with_reducible refine (HPG.out _).mono ?_); rintro e v1 ⟨b0, b1, b2, b3, ps, B, kb, rfl, hcg, hrc, hb⟩; have HY1 := Lib.hid (HXW.out.trans (hb.mono HXW.out.size)); have HRB := Lib.hid hrc; have HCB := Lib.hid hcg; clear hb hcg hrc)
        have HXB := Lib.hid (Bx.new v1 24 #[.int .i64 b0, .int .i64 b1, .int .i64 b2, .int .i64 b3, .slice B ps.length kb])
        obtain ⟨v0, hv0⟩ : ∃ v, v1.alloc (.cells #[.int .i64 b0, .int .i64 b1, .int .i64 b2, .int .i64 b3, .slice B ps.length kb] 24) = v := ⟨_, rfl⟩
        rw [hv0] at HXB ⊢
        have HR2 := Lib.hid (fun v (hv : Below v1.heap.size v1 v) => right_cfg ⟨b0, b1, b2, b3, ps, B, kb⟩ v (HRB.out.on hv))
        have HP2 := Lib.hid (fun v (hv : Below v1.heap.size v1 v) => print_ok ⟨b0, b1, b2, b3, ps, B, kb⟩ v (HRB.out.on hv))
        rw [HCB.out, HIS.out.1] at HR2
        rw [HCB.out, ← HIS.out.2] at HP2
        simp only [ccs] at HR2 HP2
        have f0 : v0.cell? ⟨v1.heap.size, 0, none⟩ = some (.int .i64 b0) := HXB.out.b.cell 0
        have f1 : v0.cell? ⟨v1.heap.size, 1, none⟩ = some (.int .i64 b1) := HXB.out.b.cell 1
        have f2 : v0.cell? ⟨v1.heap.size, 2, none⟩ = some (.int .i64 b2) := HXB.out.b.cell 2
        have f3 : v0.cell? ⟨v1.heap.size, 3, none⟩ = some (.int .i64 b3) := HXB.out.b.cell 3
        have f4 : v0.cell? ⟨v1.heap.size, 4, none⟩ = some (.slice B ps.length kb) := HXB.out.b.cell 4
        clear hv0
        go_wp2_with (first
          | (go_at_call 11; (with_reducible refine (HR2.out _ HXB.out.l).mono ?_); rintro e v2 ⟨rfl, hb⟩; have HXB2 := Lib.hid (HXB.out.on hb); clear hb; clear f0 f1 f2 f3 f4; have f0 : v2.cell? ⟨v1.heap.size, 0, none⟩ = some (.int .i64 b0) := HXB2.out.b.cell 0; have f1 : v2.cell? ⟨v1.heap.size, 1, none⟩ = some (.int .i64 b1) := HXB2.out.b.cell 1; have f2 : v2.cell? ⟨v1.heap.size, 2, none⟩ = some (.int .i64 b2) := HXB2.out.b.cell 2; have f3 : v2.cell? ⟨v1.heap.size, 3, none⟩ = some (.int .i64 b3) := HXB2.out.b.cell 3; have f4 : v2.cell? ⟨v1.heap.size, 4, none⟩ = some (.slice B ps.length kb) := HXB2.out.b.cell 4)
          | (go_at_call 10; (with_reducible refine (HP2.out _ HXB2.out.l).mono ?_); rintro e v3 ⟨rfl, hb⟩; have HXB3 := Lib.hid (HXB2.out.on hb); clear hb))
        go_ret
        exact ⟨rfl, HY1.out.trans (HXB3.out.l.mono HY1.out.size)⟩
    | true =>
      have hem : (bs TX).toList.isEmpty = false := by rw [← HTX.out]; exact print_some HCC.out
      by_cases hz : TX.length ≤ 4096
      · have hz1 : decide ((4096 : Int) < ((bs TX).size : Int)) = false := by rw [bs_size]; simp; omega
        have hz2 : decide (((bs TX).size : Int) ≤ 4096) = true := by rw [bs_size]; simp; omega
        have HPT := Lib.hid (fun u => parse_get (bs TX) (by rw [bs_size]; exact hz) (c := G) (by rw [← HTX.out]; exact parse_print HCC.out HLT.out) u)
        have hsz9 : (bs TX).size ≤ 9223372036854775807 := by rw [bs_size]; omega
        clear hz
        go_upto_region 11 with (first 
        | (go_at_call 10; (with_reducible refine (HPR.out _ HX2.out.l).mono ?_); rintro e u3 ⟨rfl, hb⟩; have HX3 := Lib.hid (HX2.out.on hb); clear hb; clear e0 e1 e2 e3 e4; have e0 : u3.cell? ⟨g0, 0, none⟩ = some (.int .i64 a0) := HX3.out.b.cell 0; have e1 : u3.cell? ⟨g0, 1, none⟩ = some (.int .i64 a1) := HX3.out.b.cell 1; have e2 : u3.cell? ⟨g0, 2, none⟩ = some (.int .i64 a2) := HX3.out.b.cell 2; have e3 : u3.cell? ⟨g0, 3, none⟩ = some (.int .i64 a3) := HX3.out.b.cell 3; have e4 : u3.cell? ⟨g0, 4, none⟩ = some (.slice A n c) := HX3.out.b.cell 4)
        | (go_at_call 11; (with_reducible refine (HRI.out _ HX3.out.l).mono ?_); rintro e u4 ⟨rfl, hb⟩; have HX4 := Lib.hid (HX3.out.on hb); clear hb; clear e0 e1 e2 e3 e4; have e0 : u4.cell? ⟨g0, 0, none⟩ = some (.int .i64 a0) := HX4.out.b.cell 0; have e1 : u4.cell? ⟨g0, 1, none⟩ = some (.int .i64 a1) := HX4.out.b.cell 1; have e2 : u4.cell? ⟨g0, 2, none⟩ = some (.int .i64 a2) := HX4.out.b.cell 2; have e3 : u4.cell? ⟨g0, 3, none⟩ = some (.int .i64 a3) := HX4.out.b.cell 3; have e4 : u4.cell? ⟨g0, 4, none⟩ = some (.slice A n c) := HX4.out.b.cell 4)
          | (go_at_call 12; (with_reducible refine (HPT.out _).mono ?_); rintro e u5 ⟨d0, d1, d2, d3, us, D, kd, rfl, hcg, hrc, hb⟩; have HX5 := Lib.hid ((HX4.out.on hb).alloc1 (.cells #[.int .i64 d0, .int .i64 d1, .int .i64 d2, .int .i64 d3, .slice D us.length kd] 24)); have HSA := Lib.hid (fun v (hv : Below u5.heap.size u5 v) => same_c ⟨d0, d1, d2, d3, us, D, kd⟩ ⟨a0, a1, a2, a3, ts, A, c⟩ v (hrc.on hv) (HRC.out.on ((HX4.out.on hb).l.trans (hv.mono (HX4.out.on hb).l.size))) (hcg.trans HG9.out.symm)); simp only [ccs, HN.out] at HSA; have HB5 := Lib.hid (show Below u5.heap.size u5 (u5.alloc (.cells #[.int .i64 d0, .int .i64 d1, .int .i64 d2, .int .i64 d3, .slice D us.length kd] 24)) from (Below.refl _ _).alloc (Nat.le_refl _) _); clear hb hcg hrc; clear e0 e1 e2 e3 e4; have e0 : (u5.alloc (.cells #[.int .i64 d0, .int .i64 d1, .int .i64 d2, .int .i64 d3, .slice D us.length kd] 24)).cell? ⟨g0, 0, none⟩ = some (.int .i64 a0) := HX5.out.b.cell 0; have e1 : (u5.alloc (.cells #[.int .i64 d0, .int .i64 d1, .int .i64 d2, .int .i64 d3, .slice D us.length kd] 24)).cell? ⟨g0, 1, none⟩ = some (.int .i64 a1) := HX5.out.b.cell 1; have e2 : (u5.alloc (.cells #[.int .i64 d0, .int .i64 d1, .int .i64 d2, .int .i64 d3, .slice D us.length kd] 24)).cell? ⟨g0, 2, none⟩ = some (.int .i64 a2) := HX5.out.b.cell 2; have e3 : (u5.alloc (.cells #[.int .i64 d0, .int .i64 d1, .int .i64 d2, .int .i64 d3, .slice D us.length kd] 24)).cell? ⟨g0, 3, none⟩ = some (.int .i64 a3) := HX5.out.b.cell 3; have e4 : (u5.alloc (.cells #[.int .i64 d0, .int .i64 d1, .int .i64 d2, .int .i64 d3, .slice D us.length kd] 24)).cell? ⟨g0, 4, none⟩ = some (.slice A n c) := HX5.out.b.cell 4)
          | (go_at_call 13; (with_reducible refine (HSA.out _ HB5.out).mono ?_); rintro e u6 ⟨rfl, hb⟩; have HX6 := Lib.hid (HX5.out.on hb); clear hb))
        have HXW := Lib.hid HX6.out.l
        clear hem e0 e1 e2 e3 e4 HX2 HX3 HX4 HX5 HX6 HSA HB5 HPT hz1 hz2 hsz9
        rcases parse_ways s with ⟨ke, ne, hke, HP⟩ | ⟨hs, cc, hp⟩
        · have HPE := Lib.hid HP
          have hne : ((ke : Int) != 0) = true := by rcases hke with rfl | rfl <;> rfl
          have HSZ := Lib.hid (fun v => same_c zeroCv zeroCv v (rc_zero v) (rc_zero v) rfl)
          simp only [ccs, zeroCv, List.length_nil] at HSZ
          clear HP hke
          go_wp2_with (first
            | (go_at_call 12; (with_reducible refine (HPE.out _).mono ?_); rintro e v1 ⟨rfl, hb⟩; have HY1 := Lib.hid ((HXW.out.trans (hb.mono HXW.out.size)).alloc (HXW.out.trans (hb.mono HXW.out.size)).size (.cells #[.int .i64 0, .int .i64 0, .int .i64 0, .int .i64 0, .slice none 0 0] 24)); clear hb)
            | (go_at_call 13; (with_reducible refine (HSZ.out _).mono ?_); rintro e v2 ⟨rfl, hb⟩; have HY2 := Lib.hid (HY1.out.trans (hb.mono HY1.out.size)); clear hb))
          go_ret
          exact ⟨rfl, HY2.out⟩
        · have HPG := Lib.hid (fun u => parse_get s hs hp u)
          have HIS := Lib.hid (parse_isC s cc hp)
          clear hp hs
          go_upto_region 14 with (go_at_call 12; (with_reducible refine (HPG.out _).mono ?_); rintro e v1 ⟨b0, b1, b2, b3, ps, B, kb, rfl, hcg, hrc, hb⟩; have HY1 := Lib.hid (HXW.out.trans (hb.mono HXW.out.size)); have HRB := Lib.hid hrc; have HCB := Lib.hid hcg; clear hb hcg hrc)
          have HXB := Lib.hid (Bx.new v1 24 #[.int .i64 b0, .int .i64 b1, .int .i64 b2, .int .i64 b3, .slice B ps.length kb])
          obtain ⟨v0, hv0⟩ : ∃ v, v1.alloc (.cells #[.int .i64 b0, .int .i64 b1, .int .i64 b2, .int .i64 b3, .slice B ps.length kb] 24) = v := ⟨_, rfl⟩
          rw [hv0] at HXB ⊢
          have HR2 := Lib.hid (fun v (hv : Below v1.heap.size v1 v) => right_cfg ⟨b0, b1, b2, b3, ps, B, kb⟩ v (HRB.out.on hv))
          have HP2 := Lib.hid (fun v (hv : Below v1.heap.size v1 v) => print_ok ⟨b0, b1, b2, b3, ps, B, kb⟩ v (HRB.out.on hv))
          rw [HCB.out, HIS.out.1] at HR2
          rw [HCB.out, ← HIS.out.2] at HP2
          simp only [ccs] at HR2 HP2
          have f0 : v0.cell? ⟨v1.heap.size, 0, none⟩ = some (.int .i64 b0) := HXB.out.b.cell 0
          have f1 : v0.cell? ⟨v1.heap.size, 1, none⟩ = some (.int .i64 b1) := HXB.out.b.cell 1
          have f2 : v0.cell? ⟨v1.heap.size, 2, none⟩ = some (.int .i64 b2) := HXB.out.b.cell 2
          have f3 : v0.cell? ⟨v1.heap.size, 3, none⟩ = some (.int .i64 b3) := HXB.out.b.cell 3
          have f4 : v0.cell? ⟨v1.heap.size, 4, none⟩ = some (.slice B ps.length kb) := HXB.out.b.cell 4
          clear hv0
          go_wp2_with (first
            | (go_at_call 11; (with_reducible refine (HR2.out _ HXB.out.l).mono ?_); rintro e v2 ⟨rfl, hb⟩; have HXB2 := Lib.hid (HXB.out.on hb); clear hb; clear f0 f1 f2 f3 f4; have f0 : v2.cell? ⟨v1.heap.size, 0, none⟩ = some (.int .i64 b0) := HXB2.out.b.cell 0; have f1 : v2.cell? ⟨v1.heap.size, 1, none⟩ = some (.int .i64 b1) := HXB2.out.b.cell 1; have f2 : v2.cell? ⟨v1.heap.size, 2, none⟩ = some (.int .i64 b2) := HXB2.out.b.cell 2; have f3 : v2.cell? ⟨v1.heap.size, 3, none⟩ = some (.int .i64 b3) := HXB2.out.b.cell 3; have f4 : v2.cell? ⟨v1.heap.size, 4, none⟩ = some (.slice B ps.length kb) := HXB2.out.b.cell 4)
            | (go_at_call 10; (with_reducible refine (HP2.out _ HXB2.out.l).mono ?_); rintro e v3 ⟨rfl, hb⟩; have HXB3 := Lib.hid (HXB2.out.on hb); clear hb))
          go_ret
          exact ⟨rfl, HY1.out.trans (HXB3.out.l.mono HY1.out.size)⟩
      · have hz1 : decide ((4096 : Int) < ((bs TX).size : Int)) = true := by rw [bs_size]; simp; omega
        have hz2 : decide (((bs TX).size : Int) ≤ 4096) = false := by rw [bs_size]; simp; omega
        have HPT := Lib.hid (fun u => parse_long (bs TX) (by rw [bs_size]; exact hz) u)
        clear hz
        go_upto_region 11 with (first 
        | (go_at_call 10; (with_reducible refine (HPR.out _ HX2.out.l).mono ?_); rintro e u3 ⟨rfl, hb⟩; have HX3 := Lib.hid (HX2.out.on hb); clear hb; clear e0 e1 e2 e3 e4; have e0 : u3.cell? ⟨g0, 0, none⟩ = some (.int .i64 a0) := HX3.out.b.cell 0; have e1 : u3.cell? ⟨g0, 1, none⟩ = some (.int .i64 a1) := HX3.out.b.cell 1; have e2 : u3.cell? ⟨g0, 2, none⟩ = some (.int .i64 a2) := HX3.out.b.cell 2; have e3 : u3.cell? ⟨g0, 3, none⟩ = some (.int .i64 a3) := HX3.out.b.cell 3; have e4 : u3.cell? ⟨g0, 4, none⟩ = some (.slice A n c) := HX3.out.b.cell 4)
        | (go_at_call 11; (with_reducible refine (HRI.out _ HX3.out.l).mono ?_); rintro e u4 ⟨rfl, hb⟩; have HX4 := Lib.hid (HX3.out.on hb); clear hb; clear e0 e1 e2 e3 e4; have e0 : u4.cell? ⟨g0, 0, none⟩ = some (.int .i64 a0) := HX4.out.b.cell 0; have e1 : u4.cell? ⟨g0, 1, none⟩ = some (.int .i64 a1) := HX4.out.b.cell 1; have e2 : u4.cell? ⟨g0, 2, none⟩ = some (.int .i64 a2) := HX4.out.b.cell 2; have e3 : u4.cell? ⟨g0, 3, none⟩ = some (.int .i64 a3) := HX4.out.b.cell 3; have e4 : u4.cell? ⟨g0, 4, none⟩ = some (.slice A n c) := HX4.out.b.cell 4)
          | (go_at_call 12; (with_reducible refine (HPT.out _).mono ?_); rintro e u5 ⟨rfl, hb⟩; have HX5 := Lib.hid ((HX4.out.on hb).alloc1 (.cells #[.int .i64 0, .int .i64 0, .int .i64 0, .int .i64 0, .slice none 0 0] 24)); clear hb))
        have HXW := Lib.hid HX5.out.l
        clear hem e0 e1 e2 e3 e4 HX2 HX3 HX4 HX5 HPT hz1 hz2
        rcases parse_ways s with ⟨ke, ne, hke, HP⟩ | ⟨hs, cc, hp⟩
        · have HPE := Lib.hid HP
          have hne : ((ke : Int) != 0) = true := by rcases hke with rfl | rfl <;> rfl
          have HSZ := Lib.hid (fun v => same_c zeroCv zeroCv v (rc_zero v) (rc_zero v) rfl)
          simp only [ccs, zeroCv, List.length_nil] at HSZ
          clear HP hke
          go_wp2_with (first
            | (go_at_call 12; (with_reducible refine (HPE.out _).mono ?_); rintro e v1 ⟨rfl, hb⟩; have HY1 := Lib.hid ((HXW.out.trans (hb.mono HXW.out.size)).alloc (HXW.out.trans (hb.mono HXW.out.size)).size (.cells #[.int .i64 0, .int .i64 0, .int .i64 0, .int .i64 0, .slice none 0 0] 24)); clear hb)
            | (go_at_call 13; (with_reducible refine (HSZ.out _).mono ?_); rintro e v2 ⟨rfl, hb⟩; have HY2 := Lib.hid (HY1.out.trans (hb.mono HY1.out.size)); clear hb))
          go_ret
          exact ⟨rfl, HY2.out⟩
        · have HPG := Lib.hid (fun u => parse_get s hs hp u)
          have HIS := Lib.hid (parse_isC s cc hp)
          clear hp hs
          go_upto_region 14 with (go_at_call 12; (with_reducible refine (HPG.out _).mono ?_); rintro e v1 ⟨b0, b1, b2, b3, ps, B, kb, rfl, hcg, hrc, hb⟩; have HY1 := Lib.hid (HXW.out.trans (hb.mono HXW.out.size)); have HRB := Lib.hid hrc; have HCB := Lib.hid hcg; clear hb hcg hrc)
          have HXB := Lib.hid (Bx.new v1 24 #[.int .i64 b0, .int .i64 b1, .int .i64 b2, .int .i64 b3, .slice B ps.length kb])
          obtain ⟨v0, hv0⟩ : ∃ v, v1.alloc (.cells #[.int .i64 b0, .int .i64 b1, .int .i64 b2, .int .i64 b3, .slice B ps.length kb] 24) = v := ⟨_, rfl⟩
          rw [hv0] at HXB ⊢
          have HR2 := Lib.hid (fun v (hv : Below v1.heap.size v1 v) => right_cfg ⟨b0, b1, b2, b3, ps, B, kb⟩ v (HRB.out.on hv))
          have HP2 := Lib.hid (fun v (hv : Below v1.heap.size v1 v) => print_ok ⟨b0, b1, b2, b3, ps, B, kb⟩ v (HRB.out.on hv))
          rw [HCB.out, HIS.out.1] at HR2
          rw [HCB.out, ← HIS.out.2] at HP2
          simp only [ccs] at HR2 HP2
          have f0 : v0.cell? ⟨v1.heap.size, 0, none⟩ = some (.int .i64 b0) := HXB.out.b.cell 0
          have f1 : v0.cell? ⟨v1.heap.size, 1, none⟩ = some (.int .i64 b1) := HXB.out.b.cell 1
          have f2 : v0.cell? ⟨v1.heap.size, 2, none⟩ = some (.int .i64 b2) := HXB.out.b.cell 2
          have f3 : v0.cell? ⟨v1.heap.size, 3, none⟩ = some (.int .i64 b3) := HXB.out.b.cell 3
          have f4 : v0.cell? ⟨v1.heap.size, 4, none⟩ = some (.slice B ps.length kb) := HXB.out.b.cell 4
          clear hv0
          go_wp2_with (first
            | (go_at_call 11; (with_reducible refine (HR2.out _ HXB.out.l).mono ?_); rintro e v2 ⟨rfl, hb⟩; have HXB2 := Lib.hid (HXB.out.on hb); clear hb; clear f0 f1 f2 f3 f4; have f0 : v2.cell? ⟨v1.heap.size, 0, none⟩ = some (.int .i64 b0) := HXB2.out.b.cell 0; have f1 : v2.cell? ⟨v1.heap.size, 1, none⟩ = some (.int .i64 b1) := HXB2.out.b.cell 1; have f2 : v2.cell? ⟨v1.heap.size, 2, none⟩ = some (.int .i64 b2) := HXB2.out.b.cell 2; have f3 : v2.cell? ⟨v1.heap.size, 3, none⟩ = some (.int .i64 b3) := HXB2.out.b.cell 3; have f4 : v2.cell? ⟨v1.heap.size, 4, none⟩ = some (.slice B ps.length kb) := HXB2.out.b.cell 4)
            | (go_at_call 10; (with_reducible refine (HP2.out _ HXB2.out.l).mono ?_); rintro e v3 ⟨rfl, hb⟩; have HXB3 := Lib.hid (HXB2.out.on hb); clear hb))
          go_ret
          exact ⟨rfl, HY1.out.trans (HXB3.out.l.mono HY1.out.size)⟩
end Go.Proofs.YtfpjkedcpnmfeaaDoor
