/- ConfigGrows: the walk. (Written by gen_cgr.py.) -/
import Derived.Test.YtfpjkedcpnmfeaaDoorCgH
import Derived.Test.YtfpjkedcpnmfeaaDoorCgG
import Derived.Test.YtfpjkedcpnmfeaaDoorCgSame
import Derived.Test.YtfpjkedcpnmfeaaDoorCgLawB
import Derived.Test.YtfpjkedcpnmfeaaDoorCgLawC
import Derived.Test.YtfpjkedcpnmfeaaDoorCfgG
import Derived.Test.YtfpjkedcpnmfeaaDoorM4
namespace Go.Proofs.YtfpjkedcpnmfeaaDoor
set_option linter.unusedVariables false
set_option linter.unusedSimpArgs false
open Go.RowKit

theorem zz_rt (u : World) (p q : Nat) : RT1 u (⟨zzT p q, none, 0, none, 0⟩ : Tv) :=
  ⟨.inl rfl, .inl rfl, ⟨Nat.le_refl _, (show (0 : Nat) ≤ 9223372036854775807 by decide), fun _ => ⟨rfl, rfl⟩⟩, ⟨Nat.le_refl _, (show (0 : Nat) ≤ 9223372036854775807 by decide), fun _ => ⟨rfl, rfl⟩⟩, (fun n hn => by simp [zzT] at hn), (by show (bs zzL).size ≤ _; rw [bs_size]; decide), (fun k hk => by simp [zzT] at hk)⟩
theorem dgt_nat (p : Nat) (h : p < 9) : 48 + (p : Int) = ((dgt p).toNat : Int) := by
  unfold dgt
  rw [UInt8.toNat_ofNat']
  omega
theorem zz_len (p q : Nat) : (zzLine p q).length = 14 := rfl
theorem last_of {ts : List Tv} {m : Nat} (hn : ts.length = m + 1) {y : Tv} (hy : ts[m]? = some y) : (ts.map (·.t)).getLast? = some y.t := by
  rw [List.getLast?_eq_getElem?, List.length_map, hn, Nat.add_sub_cancel, List.getElem?_map, hy]; rfl

set_option maxRecDepth 100000 in
set_option maxHeartbeats 16000000 in
theorem walk_ConfigGrows (x : Cv) (n0 v0 : Int) (w : World) (h : InCf w x) (wn : (Lit.int .u8 n0).wf = true) (wv : (Lit.int .u8 v0).wf = true) (hG : True) :
    Calls Tryd.prog 7 #[.agg (ccs x), .int .u8 n0, .int .u8 v0] w fun e w' => e = .returned (.bool true) ∧ Below w.heap.size w w' := by
  obtain ⟨v1, hv1, rfl⟩ := gnat_u8 n0 wn
  obtain ⟨v2, hv2, rfl⟩ := gnat_u8 v0 wv
  clear wn wv
  obtain ⟨p, hp⟩ : ∃ p, v1 % 9 = p := ⟨_, rfl⟩
  obtain ⟨q, hq⟩ : ∃ q, v2 % 9 = q := ⟨_, rfl⟩
  have hp9 : p < 9 := by omega
  have hq9 : q < 9 := by omega
  have r1 : (v1 : Int).tmod 9 = (p : Int) := by rw [Int.tmod_eq_emod_of_nonneg (by omega)]; omega
  have r2 : (v2 : Int).tmod 9 = (q : Int) := by rw [Int.tmod_eq_emod_of_nonneg (by omega)]; omega
  clear hp hq
  have HGR := Lib.hid (fun u (hu : Below w.heap.size w u) => great_ok x u (h.on hu))
  have HRI := Lib.hid (fun u (hu : Below w.heap.size w u) => right_cfg x u (h.rc.on hu))
  have HPR := Lib.hid (fun u (hu : Below w.heap.size w u) => print_ok x u (h.rc.on hu))
  have HRC := Lib.hid h.rc
  have HLT := Lib.hid (rc_lt h.rc)
  have hfit := h.rc.f
  obtain ⟨a0, a1, a2, a3, ts, A, c⟩ := x
  dsimp only at hfit
  obtain ⟨n, hn⟩ : ∃ n, ts.length = n := ⟨_, rfl⟩
  have HN := Lib.hid hn
  have hcap := hfit.cap
  have hmax := hfit.max
  have HNIL := Lib.hid hfit.nil_
  rw [hn] at hcap HNIL
  obtain ⟨G, hGG⟩ : ∃ G, Cv.cg ⟨a0, a1, a2, a3, ts, A, c⟩ = G := ⟨_, rfl⟩
  have HG9 := Lib.hid hGG
  rw [hGG] at HRI HPR HLT
  obtain ⟨C, hC⟩ : ∃ C, cfgB G = C := ⟨_, rfl⟩
  rw [hC] at HRI
  have HCC := Lib.hid hC
  obtain ⟨TX, hTX⟩ : ∃ TX, printT G = TX := ⟨_, rfl⟩
  have HTX := Lib.hid hTX
  have HTL := Lib.hid (show TX.length ≤ 23798 by rw [← hTX]; exact print_len G)
  rw [hTX] at HPR
  simp only [ccs, hn] at HGR HRI HPR ⊢
  have HX := Lib.hid (show Bx w w.heap.size 24 #[.int .i64 a0, .int .i64 a1, .int .i64 a2, .int .i64 a3, .slice A n c] (w.alloc (.cells #[.int .i64 a0, .int .i64 a1, .int .i64 a2, .int .i64 a3, .slice A n c] 24)) from Bx.new w _ _)
  have hn9 : n ≤ 9223372036854775807 := by omega
  clear h hn hfit hC hTX hGG
  cases C with
  | false =>
    go_enter Tryd.func7, Tryd.ntmps7
    go_upto_region 2 with (go_at_call 8; refine (chead_ok _).mono ?_; rintro e u1 ⟨rfl, hb⟩; have HX1 := Lib.hid (HX.out.on hb); clear hb)
    have e0 : u1.cell? ⟨w.heap.size, 0, none⟩ = some (.int .i64 a0) := HX1.out.b.cell 0
    have e1 : u1.cell? ⟨w.heap.size, 1, none⟩ = some (.int .i64 a1) := HX1.out.b.cell 1
    have e2 : u1.cell? ⟨w.heap.size, 2, none⟩ = some (.int .i64 a2) := HX1.out.b.cell 2
    have e3 : u1.cell? ⟨w.heap.size, 3, none⟩ = some (.int .i64 a3) := HX1.out.b.cell 3
    have e4 : u1.cell? ⟨w.heap.size, 4, none⟩ = some (.slice A n c) := HX1.out.b.cell 4
    go_wp2_with (first
      | (go_at_call 9; (with_reducible refine (HGR.out _ HX1.out.l).mono ?_); rintro e u2 ⟨g, rfl, _, hb⟩; have HX2 := Lib.hid (HX1.out.on hb); clear hb; clear e0 e1 e2 e3 e4; have e0 : u2.cell? ⟨w.heap.size, 0, none⟩ = some (.int .i64 a0) := HX2.out.b.cell 0; have e1 : u2.cell? ⟨w.heap.size, 1, none⟩ = some (.int .i64 a1) := HX2.out.b.cell 1; have e2 : u2.cell? ⟨w.heap.size, 2, none⟩ = some (.int .i64 a2) := HX2.out.b.cell 2; have e3 : u2.cell? ⟨w.heap.size, 3, none⟩ = some (.int .i64 a3) := HX2.out.b.cell 3; have e4 : u2.cell? ⟨w.heap.size, 4, none⟩ = some (.slice A n c) := HX2.out.b.cell 4; cases g)
      | (go_at_call 11; (with_reducible refine (HRI.out _ HX2.out.l).mono ?_); rintro e u3 ⟨rfl, hb⟩; have HX2 := Lib.hid (HX2.out.on hb); clear hb))
    all_goals go_ret
    all_goals exact ⟨rfl, HX2.out.l⟩
  | true =>
    by_cases hn0 : n = 0
    · have hpos : ((n : Int) > 0) = False := by simp; omega
      have hpos2 : ¬ (n : Int) > 0 := by omega
      have hpos3 : decide ((0 : Int) < (n : Int)) = false := by simp; omega
      have HLA := Lib.hid (show ∀ t, G.tens.getLast? = some t → ltS t.name (bs zzL) = true from fun t ht => by
        rw [← HG9.out] at ht
        have : ts = [] := List.eq_nil_of_length_eq_zero (by rw [HN.out]; exact hn0)
        rw [this] at ht
        cases ht)
      clear hn0
      go_enter Tryd.func7, Tryd.ntmps7
      go_upto_region 2 with (go_at_call 8; refine (chead_ok _).mono ?_; rintro e u1 ⟨rfl, hb⟩; have HX1 := Lib.hid (HX.out.on hb); clear hb)
      have e0 : u1.cell? ⟨w.heap.size, 0, none⟩ = some (.int .i64 a0) := HX1.out.b.cell 0
      have e1 : u1.cell? ⟨w.heap.size, 1, none⟩ = some (.int .i64 a1) := HX1.out.b.cell 1
      have e2 : u1.cell? ⟨w.heap.size, 2, none⟩ = some (.int .i64 a2) := HX1.out.b.cell 2
      have e3 : u1.cell? ⟨w.heap.size, 3, none⟩ = some (.int .i64 a3) := HX1.out.b.cell 3
      have e4 : u1.cell? ⟨w.heap.size, 4, none⟩ = some (.slice A n c) := HX1.out.b.cell 4
      go_upto_region 4 with (first
        | (go_at_call 9; (with_reducible refine (HGR.out _ HX1.out.l).mono ?_); rintro e u2 ⟨g, rfl, hsm, hb⟩; have HX2 := Lib.hid (HX1.out.on hb); clear hb; clear e0 e1 e2 e3 e4; have e0 : u2.cell? ⟨w.heap.size, 0, none⟩ = some (.int .i64 a0) := HX2.out.b.cell 0; have e1 : u2.cell? ⟨w.heap.size, 1, none⟩ = some (.int .i64 a1) := HX2.out.b.cell 1; have e2 : u2.cell? ⟨w.heap.size, 2, none⟩ = some (.int .i64 a2) := HX2.out.b.cell 2; have e3 : u2.cell? ⟨w.heap.size, 3, none⟩ = some (.int .i64 a3) := HX2.out.b.cell 3; have e4 : u2.cell? ⟨w.heap.size, 4, none⟩ = some (.slice A n c) := HX2.out.b.cell 4; have HSM := Lib.hid hsm; clear hsm; cases g)
        | (go_at_call 11; (with_reducible refine (HRI.out _ HX2.out.l).mono ?_); rintro e u3 ⟨rfl, hb⟩; have HX3 := Lib.hid (HX2.out.on hb); clear hb; clear e0 e1 e2 e3 e4; have e0 : u3.cell? ⟨w.heap.size, 0, none⟩ = some (.int .i64 a0) := HX3.out.b.cell 0; have e1 : u3.cell? ⟨w.heap.size, 1, none⟩ = some (.int .i64 a1) := HX3.out.b.cell 1; have e2 : u3.cell? ⟨w.heap.size, 2, none⟩ = some (.int .i64 a2) := HX3.out.b.cell 2; have e3 : u3.cell? ⟨w.heap.size, 3, none⟩ = some (.int .i64 a3) := HX3.out.b.cell 3; have e4 : u3.cell? ⟨w.heap.size, 4, none⟩ = some (.slice A n c) := HX3.out.b.cell 4))
      any_goals (go_ret; exact ⟨rfl, HX2.out.l⟩)
      clear hpos hpos2 hpos3
      have HSG := Lib.hid (show SmG ⟨a0, a1, a2, a3, ts, A, c⟩ from by first | exact HSM.out trivial | exact HSM.out rfl)
      have HN3 := Lib.hid (show n < 3000 by have := HSG.out.n; dsimp only at this; rw [HN.out] at this; exact this)
      clear HSM HX2 HGR HRI
      go_upto_region 5 with (go_at_call 10; (with_reducible refine (HPR.out _ HX3.out.l).mono ?_); rintro e u4 ⟨rfl, hb⟩; have HX4 := Lib.hid (HX3.out.on hb); clear hb; clear e0 e1 e2 e3 e4)
      clear HX3 HPR
      go_upto_region 6 with fail
      have HZ5 := Lib.hid (show Bk (u4.alloc (.cells #[.string ⟨#[122, 122]⟩, .int .i64 (p : Int), .int .i64 (q : Int), .slice none 0 0, .slice none 0 0] 38)) u4.heap.size 38 #[.string ⟨#[122, 122]⟩, .int .i64 (p : Int), .int .i64 (q : Int), .slice none 0 0, .slice none 0 0] from Bk.new u4 _ _)
      have HX5 := Lib.hid (HX4.out.alloc1 (.cells #[.string ⟨#[122, 122]⟩, .int .i64 (p : Int), .int .i64 (q : Int), .slice none 0 0, .slice none 0 0] 38))
      obtain ⟨w5, hw5⟩ : ∃ v, u4.alloc (.cells #[.string ⟨#[122, 122]⟩, .int .i64 (p : Int), .int .i64 (q : Int), .slice none 0 0, .slice none 0 0] 38) = v := ⟨_, rfl⟩
      rw [hw5] at HZ5 HX5 ⊢
      obtain ⟨g9, hg9⟩ : ∃ g, u4.heap.size = g := ⟨_, rfl⟩
      rw [hg9] at HZ5 ⊢
      clear hw5 hg9 HX4
      have hso1 := str_one (wx := w5) (c := dgt p) (v := 48 + (p : Int)) (dgt_nat p hp9)
      have hso2 := str_one (wx := w5.alloc (.cells #[.int .u8 (48 + (p : Int))] 5)) (c := dgt q) (v := 48 + (q : Int)) (dgt_nat q hq9)
      rw [World.size_alloc] at hso2
      have HX6 := Lib.hid (show Bx w w.heap.size 24 #[.int .i64 a0, .int .i64 a1, .int .i64 a2, .int .i64 a3, .slice A n c] ((w5.alloc (.cells #[.int .u8 (48 + (p : Int))] 5)).alloc (.cells #[.int .u8 (48 + (q : Int))] 5)) from (HX5.out.alloc1 _).alloc1 _)
      have HZ6 := Lib.hid (show Bk ((w5.alloc (.cells #[.int .u8 (48 + (p : Int))] 5)).alloc (.cells #[.int .u8 (48 + (q : Int))] 5)) g9 38 #[.string ⟨#[122, 122]⟩, .int .i64 (p : Int), .int .i64 (q : Int), .slice none 0 0, .slice none 0 0] from (HZ5.out.alloc _).alloc _)
      go_upto_region 7 with (first
        | (refine wpList_cat (by kernel_rfl) (.const (.string ⟨#[116, 101, 110, 97, 110, 116, 32, 122, 122, 32]⟩)) (.tmp 55) _ _ rfl [116, 101, 110, 97, 110, 116, 32, 122, 122, 32] [dgt p] ([116, 101, 110, 97, 110, 116, 32, 122, 122, 32] ++ [dgt p]) rfl rfl (by simp) rfl ?_)
        | (refine wpList_cat (by kernel_rfl) (.tmp 56) (.const (.string ⟨#[32]⟩)) _ _ rfl ([116, 101, 110, 97, 110, 116, 32, 122, 122, 32] ++ [dgt p]) [32] ([116, 101, 110, 97, 110, 116, 32, 122, 122, 32] ++ [dgt p] ++ [32]) rfl rfl (by simp) rfl ?_)
        | (refine wpList_cat (by kernel_rfl) (.tmp 57) (.tmp 62) _ _ rfl ([116, 101, 110, 97, 110, 116, 32, 122, 122, 32] ++ [dgt p] ++ [32]) [dgt q] ([116, 101, 110, 97, 110, 116, 32, 122, 122, 32] ++ [dgt p] ++ [32] ++ [dgt q]) rfl rfl (by simp) rfl ?_)
        | (refine wpList_cat (by kernel_rfl) (.tmp 63) (.const (.string ⟨#[10]⟩)) _ _ rfl ([116, 101, 110, 97, 110, 116, 32, 122, 122, 32] ++ [dgt p] ++ [32] ++ [dgt q]) [10] (zzLine p q) rfl rfl (by simp) rfl ?_))
      obtain ⟨w6, hw6⟩ : ∃ v, (w5.alloc (.cells #[.int .u8 (48 + (p : Int))] 5)).alloc (.cells #[.int .u8 (48 + (q : Int))] 5) = v := ⟨_, rfl⟩
      rw [hw6] at HX6 HZ6 ⊢
      clear hw6 hso1 hso2 HX5 HZ5
      obtain ⟨LN, hLN⟩ : ∃ LN, zzLine p q = LN := ⟨_, rfl⟩
      have HLN := Lib.hid hLN
      rw [hLN]
      have hsl : (bs LN).size = 14 := by rw [bs_size, ← hLN]; exact zz_len p q
      have hst : (bs TX).size ≤ 23798 := by rw [bs_size]; exact HTL.out
      clear hLN
      by_cases hbig : ((bs TX).size : Int) + 14 > 4096
      · have hb1 : decide ((4096 : Int) < ((bs TX).size : Int) + 14) = true := by simp; omega
        go_wp2
        go_ret
        exact ⟨rfl, HX6.out.l⟩
      have hb1 : decide ((4096 : Int) < ((bs TX).size : Int) + 14) = false := by simp; omega
      have HSM2 := Lib.hid (show (bs (TX ++ LN)).size ≤ 4096 by rw [bs_size, List.length_append]; rw [bs_size] at hbig hsl; omega)
      have HCATB := Lib.hid (show TX.length + LN.length ≤ 9223372036854775807 by have := HTL.out; rw [bs_size] at hsl; omega)
      have HPA := Lib.hid (show parseC (bs (TX ++ LN)) = if cfgB (growC G p q) = true then .ok (growC G p q) else .error (cfgLs G).length by
        have := parse_grow HCC.out HLT.out p q hp9 hq9
        rwa [HTX.out, HLN.out] at this)
      have e4 : w6.cell? ⟨w.heap.size, 4, none⟩ = some (.slice A (n) c) := HX6.out.b.cell 4
      have HGT := Lib.hid (show G.tens.length = n by rw [← HG9.out]; simp only [Cv.cg, List.length_map]; exact HN.out)
      by_cases h8 : n < 8
      · have hc8 : decide ((8 : Int) ≤ ((n : Nat) : Int)) = false := by simp; omega
        have hc8b : decide (8 ≤ n) = false := by simp; omega
        have hc8c : ¬ (8 ≤ n) := by omega
        have HGC := Lib.hid (grow_right HCC.out p q hp9 hq9 HLA.out (by rw [HGT.out]; exact h8))
        have HPP := Lib.hid (fun u => parse_get (bs (TX ++ LN)) HSM2.out (c := growC G p q) (by rw [HPA.out, if_pos HGC.out]) u)
        clear hbig
        go_upto_region 12 with (first
          | (refine wpList_cat (by kernel_rfl) (.tmp 73) (.tmp 74) _ _ rfl TX LN (TX ++ LN) rfl rfl HCATB.out rfl ?_)
          | (go_at_call 12; (with_reducible refine (HPP.out _).mono ?_); rintro e u7 ⟨d0, d1, d2, d3, us, D, kd, rfl, hcg, hrc, hb⟩; have HX7 := Lib.hid (HX6.out.on hb); have HZ7 := Lib.hid (HZ6.out.below hb HZ6.out.lt); have HRD := Lib.hid hrc; have HCD := Lib.hid hcg; clear hb hcg hrc; clear e4; have e4 : u7.cell? ⟨w.heap.size, 4, none⟩ = some (.slice A (n) c) := HX7.out.b.cell 4; have e4b : (u7.alloc (.cells #[.int .i64 d0, .int .i64 d1, .int .i64 d2, .int .i64 d3, .slice D us.length kd] 24)).cell? ⟨w.heap.size, 4, none⟩ = some (.slice A (n) c) := (HX7.out.alloc1 _).b.cell 4))
        have HB8 := Lib.hid (show Bk (u7.alloc (.cells #[.int .i64 d0, .int .i64 d1, .int .i64 d2, .int .i64 d3, .slice D us.length kd] 24)) u7.heap.size 24 #[.int .i64 d0, .int .i64 d1, .int .i64 d2, .int .i64 d3, .slice D us.length kd] from Bk.new u7 _ _)
        have HX8 := Lib.hid (HX7.out.alloc1 (.cells #[.int .i64 d0, .int .i64 d1, .int .i64 d2, .int .i64 d3, .slice D us.length kd] 24))
        have HZ8 := Lib.hid (HZ7.out.alloc (.cells #[.int .i64 d0, .int .i64 d1, .int .i64 d2, .int .i64 d3, .slice D us.length kd] 24))
        have HR8 := Lib.hid (show RC (u7.alloc (.cells #[.int .i64 d0, .int .i64 d1, .int .i64 d2, .int .i64 d3, .slice D us.length kd] 24)) ⟨d0, d1, d2, d3, us, D, kd⟩ from HRD.out.on ((Below.refl _ _).alloc (Nat.le_refl _) _))
        obtain ⟨w8, hw8⟩ : ∃ v, u7.alloc (.cells #[.int .i64 d0, .int .i64 d1, .int .i64 d2, .int .i64 d3, .slice D us.length kd] 24) = v := ⟨_, rfl⟩
        rw [hw8] at HB8 HX8 HZ8 HR8 ⊢
        obtain ⟨g7, hg7⟩ : ∃ g, u7.heap.size = g := ⟨_, rfl⟩
        rw [hg7] at HB8 ⊢
        clear hw8 hg7 HX7 HZ7 HX6 HZ6 HRD e4 e4b
        have e0 : w8.cell? ⟨w.heap.size, 0, none⟩ = some (.int .i64 a0) := HX8.out.b.cell 0
        have e1 : w8.cell? ⟨w.heap.size, 1, none⟩ = some (.int .i64 a1) := HX8.out.b.cell 1
        have e2 : w8.cell? ⟨w.heap.size, 2, none⟩ = some (.int .i64 a2) := HX8.out.b.cell 2
        have e3 : w8.cell? ⟨w.heap.size, 3, none⟩ = some (.int .i64 a3) := HX8.out.b.cell 3
        have e4 : w8.cell? ⟨w.heap.size, 4, none⟩ = some (.slice A n c) := HX8.out.b.cell 4
        go_upto_region 13 with fail
        have HYS := Lib.hid HX8.out.l.size
        have HXD := Lib.hid (show Bx w w8.heap.size 24 #[.int .i64 a0, .int .i64 a1, .int .i64 a2, .int .i64 a3, .slice A n c] (w8.alloc (.cells #[.int .i64 a0, .int .i64 a1, .int .i64 a2, .int .i64 a3, .slice A n c] 24)) from ⟨Bk.new w8 _ _, HX8.out.l.alloc HYS.out _⟩)
        have HXE := Lib.hid (show Bx w w.heap.size 24 #[.int .i64 a0, .int .i64 a1, .int .i64 a2, .int .i64 a3, .slice A n c] (w8.alloc (.cells #[.int .i64 a0, .int .i64 a1, .int .i64 a2, .int .i64 a3, .slice A n c] 24)) from HX8.out.alloc1 _)
        have HB9 := Lib.hid (HB8.out.alloc (.cells #[.int .i64 a0, .int .i64 a1, .int .i64 a2, .int .i64 a3, .slice A n c] 24))
        have HZ9 := Lib.hid (HZ8.out.alloc (.cells #[.int .i64 a0, .int .i64 a1, .int .i64 a2, .int .i64 a3, .slice A n c] 24))
        have HR9 := Lib.hid (HR8.out.on ((Below.refl _ _).alloc (Nat.le_refl _) (.cells #[.int .i64 a0, .int .i64 a1, .int .i64 a2, .int .i64 a3, .slice A n c] 24)))
        have HGD := Lib.hid (show w.heap.size < w8.heap.size ∧ g7 < w8.heap.size ∧ g9 < w8.heap.size from ⟨HX8.out.b.lt, HB8.out.lt, HZ8.out.lt⟩)
        have HSZ := Lib.hid (World.size_alloc w8 (.cells #[.int .i64 a0, .int .i64 a1, .int .i64 a2, .int .i64 a3, .slice A n c] 24))
        obtain ⟨v3, hv3⟩ : ∃ v, w8.alloc (.cells #[.int .i64 a0, .int .i64 a1, .int .i64 a2, .int .i64 a3, .slice A n c] 24) = v := ⟨_, rfl⟩
        rw [hv3] at HXD HXE HSZ HB9 HZ9 HR9 ⊢
        obtain ⟨gd, hgd⟩ : ∃ g, w8.heap.size = g := ⟨_, rfl⟩
        rw [hgd] at HXD HGD HSZ HYS ⊢
        have HRW := Lib.hid (show ∀ u, Below gd v3 u → Bk u g7 24 #[.int .i64 d0, .int .i64 d1, .int .i64 d2, .int .i64 d3, .slice D us.length kd] ∧ Bk u g9 38 #[.string ⟨#[122, 122]⟩, .int .i64 (p : Int), .int .i64 (q : Int), .slice none 0 0, .slice none 0 0] ∧ Bk u w.heap.size 24 #[.int .i64 a0, .int .i64 a1, .int .i64 a2, .int .i64 a3, .slice A n c] ∧ Below w.heap.size w u from fun u hu => ⟨HB9.out.below hu HGD.out.2.1, HZ9.out.below hu HGD.out.2.2, HXE.out.b.below hu HGD.out.1, HXE.out.l.trans (hu.mono HYS.out)⟩)
        have HR10 := Lib.hid (show RC w8 ⟨d0, d1, d2, d3, us, D, kd⟩ from HR8.out)
        have HV3 := Lib.hid (show Below gd w8 v3 by rw [← hgd, ← hv3]; exact (Below.refl _ _).alloc (Nat.le_refl _) _)
        have HGDE := Lib.hid hgd
        clear hv3 hgd HX8 HB8 HZ8 HB9 HZ9 HR9 HR8 e0 e1 e2 e3 e4
        try simp only [List.cons_append, List.nil_append]
        refine wp_region_held_drew (S := fun wz => Below gd v3 wz) (by kernel_rfl) ((Below.refl _ _).drew) (fun hHeld => ?_)
        refine take_at (some 95) (i := 1) (v := ?_) rfl rfl (by kernel_rfl) (by kernel_rfl) (by kernel_rfl) (fun _ _ _ h => h) (Or.inl ⟨by kernel_rfl, ?_⟩) hHeld ?_
        rotate_left
        · intro wz hSw; obtain ⟨f1, f2, f3, hbw⟩ := HRW.out wz hSw; have q4 : wz.cell? ⟨w.heap.size, 4, none⟩ = some (.slice A (n) c) := f3.cell 4; have z0 : wz.cell? ⟨g9, 0, none⟩ = some (Value.string ⟨#[122, 122]⟩) := f2.cell 0; have z1 : wz.cell? ⟨g9, 1, none⟩ = some (.int .i64 (p : Int)) := f2.cell 1; have z2 : wz.cell? ⟨g9, 2, none⟩ = some (.int .i64 (q : Int)) := f2.cell 2; have z3 : wz.cell? ⟨g9, 3, none⟩ = some (.slice none 0 0) := f2.cell 3; have z4 : wz.cell? ⟨g9, 4, none⟩ = some (.slice none 0 0) := f2.cell 4; go_simp; try (with_reducible rfl)
        try simp only [Act.put, List.setIfInBounds_toArray, List.set_cons_zero, List.set_cons_succ, List.getElem_toArray, List.getElem_cons_succ, List.getElem_cons_zero]
        refine take_at (some 96) (i := 2) (v := ?_) rfl rfl (by kernel_rfl) (by kernel_rfl) (by kernel_rfl) (fun _ _ _ h => h) (Or.inl ⟨by kernel_rfl, ?_⟩) hHeld ?_
        rotate_left
        · intro wz hSw; obtain ⟨f1, f2, f3, hbw⟩ := HRW.out wz hSw; have q4 : wz.cell? ⟨w.heap.size, 4, none⟩ = some (.slice A (n) c) := f3.cell 4; have z0 : wz.cell? ⟨g9, 0, none⟩ = some (Value.string ⟨#[122, 122]⟩) := f2.cell 0; have z1 : wz.cell? ⟨g9, 1, none⟩ = some (.int .i64 (p : Int)) := f2.cell 1; have z2 : wz.cell? ⟨g9, 2, none⟩ = some (.int .i64 (q : Int)) := f2.cell 2; have z3 : wz.cell? ⟨g9, 3, none⟩ = some (.slice none 0 0) := f2.cell 3; have z4 : wz.cell? ⟨g9, 4, none⟩ = some (.slice none 0 0) := f2.cell 4; go_simp; try (with_reducible rfl)
        try simp only [Act.put, List.setIfInBounds_toArray, List.set_cons_zero, List.set_cons_succ, List.getElem_toArray, List.getElem_cons_succ, List.getElem_cons_zero]
        refine take_at (some 98) (i := 4) (v := ?_) rfl rfl (by kernel_rfl) (by kernel_rfl) (by kernel_rfl) (fun _ _ _ h => h) (Or.inl ⟨by kernel_rfl, ?_⟩) hHeld ?_
        rotate_left
        · intro wz hSw; obtain ⟨f1, f2, f3, hbw⟩ := HRW.out wz hSw; have q4 : wz.cell? ⟨w.heap.size, 4, none⟩ = some (.slice A (n) c) := f3.cell 4; have z0 : wz.cell? ⟨g9, 0, none⟩ = some (Value.string ⟨#[122, 122]⟩) := f2.cell 0; have z1 : wz.cell? ⟨g9, 1, none⟩ = some (.int .i64 (p : Int)) := f2.cell 1; have z2 : wz.cell? ⟨g9, 2, none⟩ = some (.int .i64 (q : Int)) := f2.cell 2; have z3 : wz.cell? ⟨g9, 3, none⟩ = some (.slice none 0 0) := f2.cell 3; have z4 : wz.cell? ⟨g9, 4, none⟩ = some (.slice none 0 0) := f2.cell 4; go_simp; try (with_reducible rfl)
        try simp only [Act.put, List.setIfInBounds_toArray, List.set_cons_zero, List.set_cons_succ, List.getElem_toArray, List.getElem_cons_succ, List.getElem_cons_zero]
        have HB0 := Lib.hid (show gd ≤ v3.heap.size by have := HSZ.out; omega)
        have HBD := Lib.hid (show gd < v3.heap.size by have := HSZ.out; omega)
        refine wpAnyH_ready (rs := [0, 5]) (by kernel_rfl) (by simp) (AllReadyH.cons rfl (fun K hK => ?_) (AllReadyH.cons rfl (fun K hK => ?_) AllReadyH.nil))
        · rw [if_pos (by kernel_rfl)]
          go_simp
          refine hK.out _ _ ((Below.refl _ _).drew.alloc HB0.out _) (fun hHeld => ?_)
          try simp only [Act.put, List.setIfInBounds_toArray, List.set_cons_zero, List.set_cons_succ, List.getElem_toArray, List.getElem_cons_succ, List.getElem_cons_zero]
          refine gen_anyC (fun u => Below gd v3 u ∧ Bk u gd 24 #[.int .i64 a0, .int .i64 a1, .int .i64 a2, .int .i64 a3, .slice A n c] ∧ OT u v3.heap.size (some ⟨v3.heap.size, 0, none⟩) 0 []) ⟨hHeld, (HXD.out.b.drew).alloc _, Ow.empty v3.drew v3.heap.size (Nat.le_refl _)⟩ (fun x1 hx1 => ?_)
          clear hHeld
          refine wpAnyH_ready (rs := [3, 5]) (by kernel_rfl) (by simp) (AllReadyH.cons rfl (fun K hK => ?_) (AllReadyH.cons rfl (fun K hK => ?_) AllReadyH.nil))
          · rw [if_pos (by kernel_rfl)]
            refine op_rows roT (.tmp 94) (.tmp 96) rfl 0 rfl rfl hx1.2.2 ts _ (n) c rfl HN.out HNIL.out (HRC.out.r.r.on (HXE.out.l.trans (hx1.1.mono HYS.out))) (by have := HN3.out; omega) hx1.1.size (n) (Nat.zero_add _) ?_
            intro A1 c1 x2 hox2 hgx2 hbx2
            rw [List.nil_append] at hox2
            refine hK.out _ _ (hx1.1.trans (hbx2.mono HB0.out)) (fun hHeld => ?_)
            try simp only [Act.put, List.setIfInBounds_toArray, List.set_cons_zero, List.set_cons_succ, List.getElem_toArray, List.getElem_cons_succ, List.getElem_cons_zero]
            refine wpAnyH_ready (rs := [5]) (by kernel_rfl) (by simp) (AllReadyH.cons rfl (fun K hK => ?_) AllReadyH.nil)
            rw [if_pos (by kernel_rfl)]
            go_simp
            refine hK.out _ _ ((hx1.1.trans (hbx2.mono HB0.out)).alloc (Nat.le_trans HB0.out (hx1.1.trans (hbx2.mono HB0.out)).size) _) (fun hHeld => ?_)
            try simp only [Act.put, List.setIfInBounds_toArray, List.set_cons_zero, List.set_cons_succ, List.getElem_toArray, List.getElem_cons_succ, List.getElem_cons_zero]
            refine gen_anyC (fun u => Below gd v3 u ∧ Bk u gd 24 #[.int .i64 a0, .int .i64 a1, .int .i64 a2, .int .i64 a3, .slice A n c] ∧ Bk u x2.heap.size 38 (tcs (⟨zzT p q, none, 0, none, 0⟩ : Tv)) ∧ OT u v3.heap.size A1 c1 ts) ⟨hHeld, (hx1.2.1.below hbx2 HBD.out).alloc _, Bk.new x2 _ _, hox2.on ((Below.refl _ _).alloc (Nat.le_refl _) _)⟩ (fun x3 hx3 => ?_)
            clear hHeld
            refine wpAnyH_ready (rs := [6]) (by kernel_rfl) (by simp) (AllReadyH.cons rfl (fun K hK => ?_) AllReadyH.nil)
            rw [if_pos (by kernel_rfl)]
            refine op_rows roT (.tmp 97) (.tmp 99) rfl (n) rfl HN.out hx3.2.2.2 [(⟨zzT p q, none, 0, none, 0⟩ : Tv)] (some ⟨x2.heap.size, 0, none⟩) 1 1 rfl rfl (fun h => by cases h) (Rw.bk hx3.2.2.1) (by have := HN3.out; omega) hx3.1.size (n + 1) rfl ?_
            intro A2 c2 x4 ho4 hg4 hb4
            have hbl4 := hx3.1.trans (hb4.mono HB0.out)
            have hgd4 := (hx3.2.1).below hb4 HBD.out
            have d4 : x4.cell? ⟨gd, 4, none⟩ = some (.slice A (n) c) := hgd4.cell 4
            have f4 := hgd4.frozen 4
            refine hK.out _ _ hbl4 (fun hHeld => ?_)
            try simp only [Act.put, List.setIfInBounds_toArray, List.set_cons_zero, List.set_cons_succ, List.getElem_toArray, List.getElem_cons_succ, List.getElem_cons_zero]
            refine take_at (some 101) (i := 7) (v := ?_) rfl rfl (by kernel_rfl) (by kernel_rfl) (by kernel_rfl) (fun _ _ _ h => h) (Or.inl ⟨by kernel_rfl, ?_⟩) hHeld ?_
            rotate_left
            · intro wz hSw; go_simp; try (with_reducible rfl)
            try simp only [Act.put, List.setIfInBounds_toArray, List.set_cons_zero, List.set_cons_succ, List.getElem_toArray, List.getElem_cons_succ, List.getElem_cons_zero]
            refine wpAnyH_ready (rs := [8]) (by kernel_rfl) (by simp) (AllReadyH.cons rfl (fun K hK => ?_) AllReadyH.nil)
            rw [if_pos (by kernel_rfl)]
            go_simp
            refine hK.out _ _ (hbl4.setCell (p := ⟨gd, 4, none⟩) (Nat.le_refl _) _) (fun hHeld => ?_)
            try simp only [Act.put, List.setIfInBounds_toArray, List.set_cons_zero, List.set_cons_succ, List.getElem_toArray, List.getElem_cons_succ, List.getElem_cons_zero]
            refine wpAnyH_done (by kernel_rfl) ?_ _
            have hbs4 := hbl4.setCell (p := ⟨gd, 4, none⟩) (Nat.le_refl _) (.slice A2 (n + 1) c2)
            have HBW4 := Lib.hid ((HRW.out _ hbs4).2.2.2)
            refine gen_qC (fun u => Bk u gd 24 #[.int .i64 a0, .int .i64 a1, .int .i64 a2, .int .i64 a3, .slice A2 (n + 1) c2] ∧ RC u ⟨a0, a1, a2, a3, ts ++ [(⟨zzT p q, none, 0, none, 0⟩ : Tv)], A2, c2⟩ ∧ Below gd v3 u) ⟨?_, ?_, hbs4⟩ (fun y5 hy5 => ?_)
            · have := hgd4.set 4 (.slice A2 (n + 1) c2)
              simpa only [List.setIfInBounds_toArray, List.set_cons_zero, List.set_cons_succ] using this
            · have ho5 := ho4.set (p := ⟨gd, 4, none⟩) HBD.out (.slice A2 (n + 1) c2)
              refine ⟨⟨ho5.rw_ tcs_size, fun yy hyy => ?_⟩, ho5.fit⟩
              rcases List.mem_append.1 hyy with hyy | hyy
              · exact (HRC.out.r.each yy hyy).on HBW4.out
              · rw [List.mem_singleton.1 hyy]; exact zz_rt _ p q
            clear hHeld hbl4 hgd4 ho4 hg4 hb4 d4 f4 HBW4 hbs4
            obtain ⟨yd, yr, yl⟩ := hy5
            have HYR := Lib.hid yr
            obtain ⟨k7, -, -, kw⟩ := HRW.out y5 yl
            have HKW := Lib.hid kw
            have HSA := Lib.hid (fun v (hv : Below y5.heap.size y5 v) => same_c ⟨d0, d1, d2, d3, us, D, kd⟩ ⟨a0, a1, a2, a3, ts ++ [(⟨zzT p q, none, 0, none, 0⟩ : Tv)], A2, c2⟩ v (HR10.out.on ((show Below w8.heap.size w8 y5 from by rw [HGDE.out]; exact HV3.out.trans yl).trans (hv.mono (by have := HSZ.out; have := yl.size; have := HGDE.out; omega)))) (HYR.out.on hv) (by rw [HCD.out, growC, ← HG9.out]; simp only [Cv.cg, List.map_append, List.map_cons, List.map_nil]))
            have hl9 : (ts ++ [(⟨zzT p q, none, 0, none, 0⟩ : Tv)]).length = n + 1 := by rw [List.length_append, HN.out]; rfl
            simp only [ccs, hl9] at HSA
            have k0 : y5.cell? ⟨g7, 0, none⟩ = some (.int .i64 d0) := k7.cell 0
            have k1 : y5.cell? ⟨g7, 1, none⟩ = some (.int .i64 d1) := k7.cell 1
            have k2 : y5.cell? ⟨g7, 2, none⟩ = some (.int .i64 d2) := k7.cell 2
            have k3 : y5.cell? ⟨g7, 3, none⟩ = some (.int .i64 d3) := k7.cell 3
            have k4 : y5.cell? ⟨g7, 4, none⟩ = some (.slice D us.length kd) := k7.cell 4
            have y0 : y5.cell? ⟨gd, 0, none⟩ = some (.int .i64 a0) := yd.cell 0
            have y1 : y5.cell? ⟨gd, 1, none⟩ = some (.int .i64 a1) := yd.cell 1
            have y2 : y5.cell? ⟨gd, 2, none⟩ = some (.int .i64 a2) := yd.cell 2
            have y3 : y5.cell? ⟨gd, 3, none⟩ = some (.int .i64 a3) := yd.cell 3
            have y4 : y5.cell? ⟨gd, 4, none⟩ = some (.slice A2 (n + 1) c2) := yd.cell 4
            clear yd yr yl k7 kw hl9
            go_wp2_with (go_at_call 13; (with_reducible refine (HSA.out _ (Below.refl _ _)).mono ?_); rintro e q1 ⟨rfl, hb⟩)
            go_ret
            exact ⟨rfl, HKW.out.trans (hb.mono HKW.out.size)⟩
          · rw [if_pos (by kernel_rfl)]
            go_simp
            refine hK.out _ _ (hx1.1.alloc (Nat.le_trans HB0.out hx1.1.size) _) (fun hHeld => ?_)
            try simp only [Act.put, List.setIfInBounds_toArray, List.set_cons_zero, List.set_cons_succ, List.getElem_toArray, List.getElem_cons_succ, List.getElem_cons_zero]
            refine gen_anyC (fun u => Below gd v3 u ∧ Bk u gd 24 #[.int .i64 a0, .int .i64 a1, .int .i64 a2, .int .i64 a3, .slice A n c] ∧ Bk u x1.heap.size 38 (tcs (⟨zzT p q, none, 0, none, 0⟩ : Tv)) ∧ OT u v3.heap.size (some ⟨v3.heap.size, 0, none⟩) 0 []) ⟨hHeld, hx1.2.1.alloc _, Bk.new x1 _ _, hx1.2.2.on ((Below.refl _ _).alloc (Nat.le_refl _) _)⟩ (fun x2 hx2 => ?_)
            clear hHeld
            have hlt1 : v3.heap.size < x1.heap.size := (hx1.2.2.block 0 _ rfl).2.1
            refine wpAnyH_ready (rs := [3]) (by kernel_rfl) (by simp) (AllReadyH.cons rfl (fun K hK => ?_) AllReadyH.nil)
            rw [if_pos (by kernel_rfl)]
            refine op_rows roT (.tmp 94) (.tmp 96) rfl 0 rfl rfl hx2.2.2.2 ts _ (n) c rfl HN.out HNIL.out (HRC.out.r.r.on (HXE.out.l.trans (hx2.1.mono HYS.out))) (by have := HN3.out; omega) hx2.1.size (n) (Nat.zero_add _) ?_
            intro A1 c1 x3 hox3 hgx3 hbx3
            rw [List.nil_append] at hox3
            refine hK.out _ _ (hx2.1.trans (hbx3.mono HB0.out)) (fun hHeld => ?_)
            try simp only [Act.put, List.setIfInBounds_toArray, List.set_cons_zero, List.set_cons_succ, List.getElem_toArray, List.getElem_cons_succ, List.getElem_cons_zero]
            refine wpAnyH_ready (rs := [6]) (by kernel_rfl) (by simp) (AllReadyH.cons rfl (fun K hK => ?_) AllReadyH.nil)
            rw [if_pos (by kernel_rfl)]
            refine op_rows roT (.tmp 97) (.tmp 99) rfl (n) rfl HN.out hox3 [(⟨zzT p q, none, 0, none, 0⟩ : Tv)] (some ⟨x1.heap.size, 0, none⟩) 1 1 rfl rfl (fun h => by cases h) (Rw.bk ((hgx3.block x1.heap.size hx2.2.2.1.lt (fun e => by injection e with e; dsimp only at e; omega)).trans hx2.2.2.1)) (by have := HN3.out; omega) (hx2.1.trans (hbx3.mono HB0.out)).size (n + 1) rfl ?_
            intro A2 c2 x4 ho4 hg4 hb4
            have hbl4 := (hx2.1.trans (hbx3.mono HB0.out)).trans (hb4.mono HB0.out)
            have hgd4 := ((hx2.2.1.below hbx3 HBD.out)).below hb4 HBD.out
            have d4 : x4.cell? ⟨gd, 4, none⟩ = some (.slice A (n) c) := hgd4.cell 4
            have f4 := hgd4.frozen 4
            refine hK.out _ _ hbl4 (fun hHeld => ?_)
            try simp only [Act.put, List.setIfInBounds_toArray, List.set_cons_zero, List.set_cons_succ, List.getElem_toArray, List.getElem_cons_succ, List.getElem_cons_zero]
            refine take_at (some 101) (i := 7) (v := ?_) rfl rfl (by kernel_rfl) (by kernel_rfl) (by kernel_rfl) (fun _ _ _ h => h) (Or.inl ⟨by kernel_rfl, ?_⟩) hHeld ?_
            rotate_left
            · intro wz hSw; go_simp; try (with_reducible rfl)
            try simp only [Act.put, List.setIfInBounds_toArray, List.set_cons_zero, List.set_cons_succ, List.getElem_toArray, List.getElem_cons_succ, List.getElem_cons_zero]
            refine wpAnyH_ready (rs := [8]) (by kernel_rfl) (by simp) (AllReadyH.cons rfl (fun K hK => ?_) AllReadyH.nil)
            rw [if_pos (by kernel_rfl)]
            go_simp
            refine hK.out _ _ (hbl4.setCell (p := ⟨gd, 4, none⟩) (Nat.le_refl _) _) (fun hHeld => ?_)
            try simp only [Act.put, List.setIfInBounds_toArray, List.set_cons_zero, List.set_cons_succ, List.getElem_toArray, List.getElem_cons_succ, List.getElem_cons_zero]
            refine wpAnyH_done (by kernel_rfl) ?_ _
            have hbs4 := hbl4.setCell (p := ⟨gd, 4, none⟩) (Nat.le_refl _) (.slice A2 (n + 1) c2)
            have HBW4 := Lib.hid ((HRW.out _ hbs4).2.2.2)
            refine gen_qC (fun u => Bk u gd 24 #[.int .i64 a0, .int .i64 a1, .int .i64 a2, .int .i64 a3, .slice A2 (n + 1) c2] ∧ RC u ⟨a0, a1, a2, a3, ts ++ [(⟨zzT p q, none, 0, none, 0⟩ : Tv)], A2, c2⟩ ∧ Below gd v3 u) ⟨?_, ?_, hbs4⟩ (fun y5 hy5 => ?_)
            · have := hgd4.set 4 (.slice A2 (n + 1) c2)
              simpa only [List.setIfInBounds_toArray, List.set_cons_zero, List.set_cons_succ] using this
            · have ho5 := ho4.set (p := ⟨gd, 4, none⟩) HBD.out (.slice A2 (n + 1) c2)
              refine ⟨⟨ho5.rw_ tcs_size, fun yy hyy => ?_⟩, ho5.fit⟩
              rcases List.mem_append.1 hyy with hyy | hyy
              · exact (HRC.out.r.each yy hyy).on HBW4.out
              · rw [List.mem_singleton.1 hyy]; exact zz_rt _ p q
            clear hHeld hbl4 hgd4 ho4 hg4 hb4 d4 f4 HBW4 hbs4
            obtain ⟨yd, yr, yl⟩ := hy5
            have HYR := Lib.hid yr
            obtain ⟨k7, -, -, kw⟩ := HRW.out y5 yl
            have HKW := Lib.hid kw
            have HSA := Lib.hid (fun v (hv : Below y5.heap.size y5 v) => same_c ⟨d0, d1, d2, d3, us, D, kd⟩ ⟨a0, a1, a2, a3, ts ++ [(⟨zzT p q, none, 0, none, 0⟩ : Tv)], A2, c2⟩ v (HR10.out.on ((show Below w8.heap.size w8 y5 from by rw [HGDE.out]; exact HV3.out.trans yl).trans (hv.mono (by have := HSZ.out; have := yl.size; have := HGDE.out; omega)))) (HYR.out.on hv) (by rw [HCD.out, growC, ← HG9.out]; simp only [Cv.cg, List.map_append, List.map_cons, List.map_nil]))
            have hl9 : (ts ++ [(⟨zzT p q, none, 0, none, 0⟩ : Tv)]).length = n + 1 := by rw [List.length_append, HN.out]; rfl
            simp only [ccs, hl9] at HSA
            have k0 : y5.cell? ⟨g7, 0, none⟩ = some (.int .i64 d0) := k7.cell 0
            have k1 : y5.cell? ⟨g7, 1, none⟩ = some (.int .i64 d1) := k7.cell 1
            have k2 : y5.cell? ⟨g7, 2, none⟩ = some (.int .i64 d2) := k7.cell 2
            have k3 : y5.cell? ⟨g7, 3, none⟩ = some (.int .i64 d3) := k7.cell 3
            have k4 : y5.cell? ⟨g7, 4, none⟩ = some (.slice D us.length kd) := k7.cell 4
            have y0 : y5.cell? ⟨gd, 0, none⟩ = some (.int .i64 a0) := yd.cell 0
            have y1 : y5.cell? ⟨gd, 1, none⟩ = some (.int .i64 a1) := yd.cell 1
            have y2 : y5.cell? ⟨gd, 2, none⟩ = some (.int .i64 a2) := yd.cell 2
            have y3 : y5.cell? ⟨gd, 3, none⟩ = some (.int .i64 a3) := yd.cell 3
            have y4 : y5.cell? ⟨gd, 4, none⟩ = some (.slice A2 (n + 1) c2) := yd.cell 4
            clear yd yr yl k7 kw hl9
            go_wp2_with (go_at_call 13; (with_reducible refine (HSA.out _ (Below.refl _ _)).mono ?_); rintro e q1 ⟨rfl, hb⟩)
            go_ret
            exact ⟨rfl, HKW.out.trans (hb.mono HKW.out.size)⟩
        · rw [if_pos (by kernel_rfl)]
          go_simp
          refine hK.out _ _ ((Below.refl _ _).drew.alloc HB0.out _) (fun hHeld => ?_)
          try simp only [Act.put, List.setIfInBounds_toArray, List.set_cons_zero, List.set_cons_succ, List.getElem_toArray, List.getElem_cons_succ, List.getElem_cons_zero]
          refine gen_anyC (fun u => Below gd v3 u ∧ Bk u gd 24 #[.int .i64 a0, .int .i64 a1, .int .i64 a2, .int .i64 a3, .slice A n c] ∧ Bk u v3.heap.size 38 (tcs (⟨zzT p q, none, 0, none, 0⟩ : Tv))) ⟨hHeld, (HXD.out.b.drew).alloc _, Bk.new v3.drew _ _⟩ (fun x1 hx1 => ?_)
          clear hHeld
          refine wpAnyH_ready (rs := [0]) (by kernel_rfl) (by simp) (AllReadyH.cons rfl (fun K hK => ?_) AllReadyH.nil)
          rw [if_pos (by kernel_rfl)]
          go_simp
          refine hK.out _ _ (hx1.1.alloc (Nat.le_trans HB0.out hx1.1.size) _) (fun hHeld => ?_)
          try simp only [Act.put, List.setIfInBounds_toArray, List.set_cons_zero, List.set_cons_succ, List.getElem_toArray, List.getElem_cons_succ, List.getElem_cons_zero]
          refine gen_anyC (fun u => Below gd v3 u ∧ Bk u gd 24 #[.int .i64 a0, .int .i64 a1, .int .i64 a2, .int .i64 a3, .slice A n c] ∧ OT u v3.heap.size (some ⟨x1.heap.size, 0, none⟩) 0 [] ∧ Bk u v3.heap.size 38 (tcs (⟨zzT p q, none, 0, none, 0⟩ : Tv))) ⟨hHeld, hx1.2.1.alloc _, Ow.empty x1 v3.heap.size (hx1.1.size), hx1.2.2.alloc _⟩ (fun x2 hx2 => ?_)
          clear hHeld
          have hlt1 : v3.heap.size < x1.heap.size := hx1.2.2.lt
          refine wpAnyH_ready (rs := [3]) (by kernel_rfl) (by simp) (AllReadyH.cons rfl (fun K hK => ?_) AllReadyH.nil)
          rw [if_pos (by kernel_rfl)]
          refine op_rows roT (.tmp 94) (.tmp 96) rfl 0 rfl rfl hx2.2.2.1 ts _ (n) c rfl HN.out HNIL.out (HRC.out.r.r.on (HXE.out.l.trans (hx2.1.mono HYS.out))) (by have := HN3.out; omega) hx2.1.size (n) (Nat.zero_add _) ?_
          intro A1 c1 x3 hox3 hgx3 hbx3
          rw [List.nil_append] at hox3
          refine hK.out _ _ (hx2.1.trans (hbx3.mono HB0.out)) (fun hHeld => ?_)
          try simp only [Act.put, List.setIfInBounds_toArray, List.set_cons_zero, List.set_cons_succ, List.getElem_toArray, List.getElem_cons_succ, List.getElem_cons_zero]
          refine wpAnyH_ready (rs := [6]) (by kernel_rfl) (by simp) (AllReadyH.cons rfl (fun K hK => ?_) AllReadyH.nil)
          rw [if_pos (by kernel_rfl)]
          refine op_rows roT (.tmp 97) (.tmp 99) rfl (n) rfl HN.out hox3 [(⟨zzT p q, none, 0, none, 0⟩ : Tv)] (some ⟨v3.heap.size, 0, none⟩) 1 1 rfl rfl (fun h => by cases h) (Rw.bk ((hgx3.block v3.heap.size hx2.2.2.2.lt (fun e => by injection e with e; dsimp only at e; omega)).trans hx2.2.2.2)) (by have := HN3.out; omega) (hx2.1.trans (hbx3.mono HB0.out)).size (n + 1) rfl ?_
          intro A2 c2 x4 ho4 hg4 hb4
          have hbl4 := (hx2.1.trans (hbx3.mono HB0.out)).trans (hb4.mono HB0.out)
          have hgd4 := ((hx2.2.1.below hbx3 HBD.out)).below hb4 HBD.out
          have d4 : x4.cell? ⟨gd, 4, none⟩ = some (.slice A (n) c) := hgd4.cell 4
          have f4 := hgd4.frozen 4
          refine hK.out _ _ hbl4 (fun hHeld => ?_)
          try simp only [Act.put, List.setIfInBounds_toArray, List.set_cons_zero, List.set_cons_succ, List.getElem_toArray, List.getElem_cons_succ, List.getElem_cons_zero]
          refine take_at (some 101) (i := 7) (v := ?_) rfl rfl (by kernel_rfl) (by kernel_rfl) (by kernel_rfl) (fun _ _ _ h => h) (Or.inl ⟨by kernel_rfl, ?_⟩) hHeld ?_
          rotate_left
          · intro wz hSw; go_simp; try (with_reducible rfl)
          try simp only [Act.put, List.setIfInBounds_toArray, List.set_cons_zero, List.set_cons_succ, List.getElem_toArray, List.getElem_cons_succ, List.getElem_cons_zero]
          refine wpAnyH_ready (rs := [8]) (by kernel_rfl) (by simp) (AllReadyH.cons rfl (fun K hK => ?_) AllReadyH.nil)
          rw [if_pos (by kernel_rfl)]
          go_simp
          refine hK.out _ _ (hbl4.setCell (p := ⟨gd, 4, none⟩) (Nat.le_refl _) _) (fun hHeld => ?_)
          try simp only [Act.put, List.setIfInBounds_toArray, List.set_cons_zero, List.set_cons_succ, List.getElem_toArray, List.getElem_cons_succ, List.getElem_cons_zero]
          refine wpAnyH_done (by kernel_rfl) ?_ _
          have hbs4 := hbl4.setCell (p := ⟨gd, 4, none⟩) (Nat.le_refl _) (.slice A2 (n + 1) c2)
          have HBW4 := Lib.hid ((HRW.out _ hbs4).2.2.2)
          refine gen_qC (fun u => Bk u gd 24 #[.int .i64 a0, .int .i64 a1, .int .i64 a2, .int .i64 a3, .slice A2 (n + 1) c2] ∧ RC u ⟨a0, a1, a2, a3, ts ++ [(⟨zzT p q, none, 0, none, 0⟩ : Tv)], A2, c2⟩ ∧ Below gd v3 u) ⟨?_, ?_, hbs4⟩ (fun y5 hy5 => ?_)
          · have := hgd4.set 4 (.slice A2 (n + 1) c2)
            simpa only [List.setIfInBounds_toArray, List.set_cons_zero, List.set_cons_succ] using this
          · have ho5 := ho4.set (p := ⟨gd, 4, none⟩) HBD.out (.slice A2 (n + 1) c2)
            refine ⟨⟨ho5.rw_ tcs_size, fun yy hyy => ?_⟩, ho5.fit⟩
            rcases List.mem_append.1 hyy with hyy | hyy
            · exact (HRC.out.r.each yy hyy).on HBW4.out
            · rw [List.mem_singleton.1 hyy]; exact zz_rt _ p q
          clear hHeld hbl4 hgd4 ho4 hg4 hb4 d4 f4 HBW4 hbs4
          obtain ⟨yd, yr, yl⟩ := hy5
          have HYR := Lib.hid yr
          obtain ⟨k7, -, -, kw⟩ := HRW.out y5 yl
          have HKW := Lib.hid kw
          have HSA := Lib.hid (fun v (hv : Below y5.heap.size y5 v) => same_c ⟨d0, d1, d2, d3, us, D, kd⟩ ⟨a0, a1, a2, a3, ts ++ [(⟨zzT p q, none, 0, none, 0⟩ : Tv)], A2, c2⟩ v (HR10.out.on ((show Below w8.heap.size w8 y5 from by rw [HGDE.out]; exact HV3.out.trans yl).trans (hv.mono (by have := HSZ.out; have := yl.size; have := HGDE.out; omega)))) (HYR.out.on hv) (by rw [HCD.out, growC, ← HG9.out]; simp only [Cv.cg, List.map_append, List.map_cons, List.map_nil]))
          have hl9 : (ts ++ [(⟨zzT p q, none, 0, none, 0⟩ : Tv)]).length = n + 1 := by rw [List.length_append, HN.out]; rfl
          simp only [ccs, hl9] at HSA
          have k0 : y5.cell? ⟨g7, 0, none⟩ = some (.int .i64 d0) := k7.cell 0
          have k1 : y5.cell? ⟨g7, 1, none⟩ = some (.int .i64 d1) := k7.cell 1
          have k2 : y5.cell? ⟨g7, 2, none⟩ = some (.int .i64 d2) := k7.cell 2
          have k3 : y5.cell? ⟨g7, 3, none⟩ = some (.int .i64 d3) := k7.cell 3
          have k4 : y5.cell? ⟨g7, 4, none⟩ = some (.slice D us.length kd) := k7.cell 4
          have y0 : y5.cell? ⟨gd, 0, none⟩ = some (.int .i64 a0) := yd.cell 0
          have y1 : y5.cell? ⟨gd, 1, none⟩ = some (.int .i64 a1) := yd.cell 1
          have y2 : y5.cell? ⟨gd, 2, none⟩ = some (.int .i64 a2) := yd.cell 2
          have y3 : y5.cell? ⟨gd, 3, none⟩ = some (.int .i64 a3) := yd.cell 3
          have y4 : y5.cell? ⟨gd, 4, none⟩ = some (.slice A2 (n + 1) c2) := yd.cell 4
          clear yd yr yl k7 kw hl9
          go_wp2_with (go_at_call 13; (with_reducible refine (HSA.out _ (Below.refl _ _)).mono ?_); rintro e q1 ⟨rfl, hb⟩)
          go_ret
          exact ⟨rfl, HKW.out.trans (hb.mono HKW.out.size)⟩
      · exfalso; omega
    · obtain ⟨m, rfl⟩ : ∃ m, n = m + 1 := ⟨n - 1, by omega⟩
      clear hn0
      obtain ⟨b, o, yl, rfl, hy, h1, hcl⟩ := HRC.out.r.at5 m (by rw [HN.out]; omega)
      have HCL := Lib.hid hcl
      obtain ⟨z, hz⟩ : ∃ z, Op.bytesLess yl.t.name.toList (bs zzL).toList = z := ⟨_, rfl⟩
      have HLQ := Lib.hid (show z = true → ∀ t, G.tens.getLast? = some t → ltS t.name (bs zzL) = true from fun h t ht => by
        rw [← HG9.out] at ht
        have := (last_of HN.out hy).symm.trans ht
        injection this with this
        rw [← this]
        unfold ltS
        rw [hz]; exact h)
      obtain ⟨⟨yn, ya, yb, nl, kl⟩, An, cn, Ak, ck⟩ := yl
      dsimp only at hz
      have hz1 : (Op.bytesLess [122, 122] yn.toList || [122, 122] == yn.toList) = !z := by
        have h1 := leS (bs zzL) yn
        rw [show (bs zzL).toList = [122, 122] by rw [bs_list]; rfl] at h1
        rw [h1]
        unfold ltS
        rw [hz]
      have hz2 : (!Op.bytesLess yn.toList [122, 122]) = !z := by rw [← hz, show (bs zzL).toList = [122, 122] by rw [bs_list]; rfl]
      have hz3 : Op.bytesLess yn.toList [122, 122] = z := by rw [← hz, show (bs zzL).toList = [122, 122] by rw [bs_list]; rfl]
      have HCT := Lib.hid (show ∀ u, Below w.heap.size w u → u.cell? ⟨b, o + m * 5, none⟩ = some (.string yn) from fun u hu => (hcl u hu).1)
      clear hy h1 hcl hz
      cases z with
      | false =>
        simp only [Bool.not_false] at hz1 hz2
        go_enter Tryd.func7, Tryd.ntmps7
        go_upto_region 2 with (go_at_call 8; refine (chead_ok _).mono ?_; rintro e u1 ⟨rfl, hb⟩; have HX1 := Lib.hid (HX.out.on hb); clear hb)
        have e0 : u1.cell? ⟨w.heap.size, 0, none⟩ = some (.int .i64 a0) := HX1.out.b.cell 0
        have e1 : u1.cell? ⟨w.heap.size, 1, none⟩ = some (.int .i64 a1) := HX1.out.b.cell 1
        have e2 : u1.cell? ⟨w.heap.size, 2, none⟩ = some (.int .i64 a2) := HX1.out.b.cell 2
        have e3 : u1.cell? ⟨w.heap.size, 3, none⟩ = some (.int .i64 a3) := HX1.out.b.cell 3
        have e4 : u1.cell? ⟨w.heap.size, 4, none⟩ = some (.slice (some ⟨b, o, none⟩) (m + 1) c) := HX1.out.b.cell 4
        go_wp2_with (first
          | (go_at_call 9; (with_reducible refine (HGR.out _ HX1.out.l).mono ?_); rintro e u2 ⟨g, rfl, _, hb⟩; have HX2 := Lib.hid (HX1.out.on hb); clear hb; clear e0 e1 e2 e3 e4; have e0 : u2.cell? ⟨w.heap.size, 0, none⟩ = some (.int .i64 a0) := HX2.out.b.cell 0; have e1 : u2.cell? ⟨w.heap.size, 1, none⟩ = some (.int .i64 a1) := HX2.out.b.cell 1; have e2 : u2.cell? ⟨w.heap.size, 2, none⟩ = some (.int .i64 a2) := HX2.out.b.cell 2; have e3 : u2.cell? ⟨w.heap.size, 3, none⟩ = some (.int .i64 a3) := HX2.out.b.cell 3; have e4 : u2.cell? ⟨w.heap.size, 4, none⟩ = some (.slice (some ⟨b, o, none⟩) (m + 1) c) := HX2.out.b.cell 4; cases g)
          | (go_at_call 11; (with_reducible refine (HRI.out _ HX2.out.l).mono ?_); rintro e u3 ⟨rfl, hb⟩; have HX2 := Lib.hid (HX2.out.on hb); clear hb; clear e0 e1 e2 e3 e4; have e0 : u3.cell? ⟨w.heap.size, 0, none⟩ = some (.int .i64 a0) := HX2.out.b.cell 0; have e1 : u3.cell? ⟨w.heap.size, 1, none⟩ = some (.int .i64 a1) := HX2.out.b.cell 1; have e2 : u3.cell? ⟨w.heap.size, 2, none⟩ = some (.int .i64 a2) := HX2.out.b.cell 2; have e3 : u3.cell? ⟨w.heap.size, 3, none⟩ = some (.int .i64 a3) := HX2.out.b.cell 3; have e4 : u3.cell? ⟨w.heap.size, 4, none⟩ = some (.slice (some ⟨b, o, none⟩) (m + 1) c) := HX2.out.b.cell 4; have ht0 : u3.cell? ⟨b, o + m * 5, none⟩ = some (.string yn) := HCT.out u3 HX2.out.l))
        all_goals go_ret
        all_goals exact ⟨rfl, HX2.out.l⟩
      | true =>
        simp only [Bool.not_true] at hz1 hz2
        have HLA := Lib.hid (show ∀ t, G.tens.getLast? = some t → ltS t.name (bs zzL) = true from HLQ.out rfl)
        clear HLQ
        go_enter Tryd.func7, Tryd.ntmps7
        go_upto_region 2 with (go_at_call 8; refine (chead_ok _).mono ?_; rintro e u1 ⟨rfl, hb⟩; have HX1 := Lib.hid (HX.out.on hb); clear hb)
        have e0 : u1.cell? ⟨w.heap.size, 0, none⟩ = some (.int .i64 a0) := HX1.out.b.cell 0
        have e1 : u1.cell? ⟨w.heap.size, 1, none⟩ = some (.int .i64 a1) := HX1.out.b.cell 1
        have e2 : u1.cell? ⟨w.heap.size, 2, none⟩ = some (.int .i64 a2) := HX1.out.b.cell 2
        have e3 : u1.cell? ⟨w.heap.size, 3, none⟩ = some (.int .i64 a3) := HX1.out.b.cell 3
        have e4 : u1.cell? ⟨w.heap.size, 4, none⟩ = some (.slice (some ⟨b, o, none⟩) (m + 1) c) := HX1.out.b.cell 4
        go_upto_region 4 with (first
          | (go_at_call 9; (with_reducible refine (HGR.out _ HX1.out.l).mono ?_); rintro e u2 ⟨g, rfl, hsm, hb⟩; have HX2 := Lib.hid (HX1.out.on hb); clear hb; clear e0 e1 e2 e3 e4; have e0 : u2.cell? ⟨w.heap.size, 0, none⟩ = some (.int .i64 a0) := HX2.out.b.cell 0; have e1 : u2.cell? ⟨w.heap.size, 1, none⟩ = some (.int .i64 a1) := HX2.out.b.cell 1; have e2 : u2.cell? ⟨w.heap.size, 2, none⟩ = some (.int .i64 a2) := HX2.out.b.cell 2; have e3 : u2.cell? ⟨w.heap.size, 3, none⟩ = some (.int .i64 a3) := HX2.out.b.cell 3; have e4 : u2.cell? ⟨w.heap.size, 4, none⟩ = some (.slice (some ⟨b, o, none⟩) (m + 1) c) := HX2.out.b.cell 4; have HSM := Lib.hid hsm; clear hsm; cases g)
          | (go_at_call 11; (with_reducible refine (HRI.out _ HX2.out.l).mono ?_); rintro e u3 ⟨rfl, hb⟩; have HX3 := Lib.hid (HX2.out.on hb); clear hb; clear e0 e1 e2 e3 e4; have e0 : u3.cell? ⟨w.heap.size, 0, none⟩ = some (.int .i64 a0) := HX3.out.b.cell 0; have e1 : u3.cell? ⟨w.heap.size, 1, none⟩ = some (.int .i64 a1) := HX3.out.b.cell 1; have e2 : u3.cell? ⟨w.heap.size, 2, none⟩ = some (.int .i64 a2) := HX3.out.b.cell 2; have e3 : u3.cell? ⟨w.heap.size, 3, none⟩ = some (.int .i64 a3) := HX3.out.b.cell 3; have e4 : u3.cell? ⟨w.heap.size, 4, none⟩ = some (.slice (some ⟨b, o, none⟩) (m + 1) c) := HX3.out.b.cell 4; have ht0 : u3.cell? ⟨b, o + m * 5, none⟩ = some (.string yn) := HCT.out u3 HX3.out.l))
        any_goals (go_ret; exact ⟨rfl, HX2.out.l⟩)
        clear hz1 hz2 hz3
        have HSG := Lib.hid (show SmG ⟨a0, a1, a2, a3, ts, (some ⟨b, o, none⟩), c⟩ from by first | exact HSM.out trivial | exact HSM.out rfl)
        have HN3 := Lib.hid (show (m + 1) < 3000 by have := HSG.out.n; dsimp only at this; rw [HN.out] at this; exact this)
        clear HSM HX2 HGR HRI
        go_upto_region 5 with (go_at_call 10; (with_reducible refine (HPR.out _ HX3.out.l).mono ?_); rintro e u4 ⟨rfl, hb⟩; have HX4 := Lib.hid (HX3.out.on hb); clear hb; clear e0 e1 e2 e3 e4)
        clear HX3 HPR
        go_upto_region 6 with fail
        have HZ5 := Lib.hid (show Bk (u4.alloc (.cells #[.string ⟨#[122, 122]⟩, .int .i64 (p : Int), .int .i64 (q : Int), .slice none 0 0, .slice none 0 0] 38)) u4.heap.size 38 #[.string ⟨#[122, 122]⟩, .int .i64 (p : Int), .int .i64 (q : Int), .slice none 0 0, .slice none 0 0] from Bk.new u4 _ _)
        have HX5 := Lib.hid (HX4.out.alloc1 (.cells #[.string ⟨#[122, 122]⟩, .int .i64 (p : Int), .int .i64 (q : Int), .slice none 0 0, .slice none 0 0] 38))
        obtain ⟨w5, hw5⟩ : ∃ v, u4.alloc (.cells #[.string ⟨#[122, 122]⟩, .int .i64 (p : Int), .int .i64 (q : Int), .slice none 0 0, .slice none 0 0] 38) = v := ⟨_, rfl⟩
        rw [hw5] at HZ5 HX5 ⊢
        obtain ⟨g9, hg9⟩ : ∃ g, u4.heap.size = g := ⟨_, rfl⟩
        rw [hg9] at HZ5 ⊢
        clear hw5 hg9 HX4
        have hso1 := str_one (wx := w5) (c := dgt p) (v := 48 + (p : Int)) (dgt_nat p hp9)
        have hso2 := str_one (wx := w5.alloc (.cells #[.int .u8 (48 + (p : Int))] 5)) (c := dgt q) (v := 48 + (q : Int)) (dgt_nat q hq9)
        rw [World.size_alloc] at hso2
        have HX6 := Lib.hid (show Bx w w.heap.size 24 #[.int .i64 a0, .int .i64 a1, .int .i64 a2, .int .i64 a3, .slice (some ⟨b, o, none⟩) (m + 1) c] ((w5.alloc (.cells #[.int .u8 (48 + (p : Int))] 5)).alloc (.cells #[.int .u8 (48 + (q : Int))] 5)) from (HX5.out.alloc1 _).alloc1 _)
        have HZ6 := Lib.hid (show Bk ((w5.alloc (.cells #[.int .u8 (48 + (p : Int))] 5)).alloc (.cells #[.int .u8 (48 + (q : Int))] 5)) g9 38 #[.string ⟨#[122, 122]⟩, .int .i64 (p : Int), .int .i64 (q : Int), .slice none 0 0, .slice none 0 0] from (HZ5.out.alloc _).alloc _)
        go_upto_region 7 with (first
          | (refine wpList_cat (by kernel_rfl) (.const (.string ⟨#[116, 101, 110, 97, 110, 116, 32, 122, 122, 32]⟩)) (.tmp 55) _ _ rfl [116, 101, 110, 97, 110, 116, 32, 122, 122, 32] [dgt p] ([116, 101, 110, 97, 110, 116, 32, 122, 122, 32] ++ [dgt p]) rfl rfl (by simp) rfl ?_)
          | (refine wpList_cat (by kernel_rfl) (.tmp 56) (.const (.string ⟨#[32]⟩)) _ _ rfl ([116, 101, 110, 97, 110, 116, 32, 122, 122, 32] ++ [dgt p]) [32] ([116, 101, 110, 97, 110, 116, 32, 122, 122, 32] ++ [dgt p] ++ [32]) rfl rfl (by simp) rfl ?_)
          | (refine wpList_cat (by kernel_rfl) (.tmp 57) (.tmp 62) _ _ rfl ([116, 101, 110, 97, 110, 116, 32, 122, 122, 32] ++ [dgt p] ++ [32]) [dgt q] ([116, 101, 110, 97, 110, 116, 32, 122, 122, 32] ++ [dgt p] ++ [32] ++ [dgt q]) rfl rfl (by simp) rfl ?_)
          | (refine wpList_cat (by kernel_rfl) (.tmp 63) (.const (.string ⟨#[10]⟩)) _ _ rfl ([116, 101, 110, 97, 110, 116, 32, 122, 122, 32] ++ [dgt p] ++ [32] ++ [dgt q]) [10] (zzLine p q) rfl rfl (by simp) rfl ?_))
        obtain ⟨w6, hw6⟩ : ∃ v, (w5.alloc (.cells #[.int .u8 (48 + (p : Int))] 5)).alloc (.cells #[.int .u8 (48 + (q : Int))] 5) = v := ⟨_, rfl⟩
        rw [hw6] at HX6 HZ6 ⊢
        clear hw6 hso1 hso2 HX5 HZ5
        obtain ⟨LN, hLN⟩ : ∃ LN, zzLine p q = LN := ⟨_, rfl⟩
        have HLN := Lib.hid hLN
        rw [hLN]
        have hsl : (bs LN).size = 14 := by rw [bs_size, ← hLN]; exact zz_len p q
        have hst : (bs TX).size ≤ 23798 := by rw [bs_size]; exact HTL.out
        clear hLN
        by_cases hbig : ((bs TX).size : Int) + 14 > 4096
        · have hb1 : decide ((4096 : Int) < ((bs TX).size : Int) + 14) = true := by simp; omega
          go_wp2
          go_ret
          exact ⟨rfl, HX6.out.l⟩
        have hb1 : decide ((4096 : Int) < ((bs TX).size : Int) + 14) = false := by simp; omega
        have HSM2 := Lib.hid (show (bs (TX ++ LN)).size ≤ 4096 by rw [bs_size, List.length_append]; rw [bs_size] at hbig hsl; omega)
        have HCATB := Lib.hid (show TX.length + LN.length ≤ 9223372036854775807 by have := HTL.out; rw [bs_size] at hsl; omega)
        have HPA := Lib.hid (show parseC (bs (TX ++ LN)) = if cfgB (growC G p q) = true then .ok (growC G p q) else .error (cfgLs G).length by
          have := parse_grow HCC.out HLT.out p q hp9 hq9
          rwa [HTX.out, HLN.out] at this)
        have e4 : w6.cell? ⟨w.heap.size, 4, none⟩ = some (.slice (some ⟨b, o, none⟩) ((m + 1)) c) := HX6.out.b.cell 4
        have HGT := Lib.hid (show G.tens.length = (m + 1) by rw [← HG9.out]; simp only [Cv.cg, List.length_map]; exact HN.out)
        by_cases h8 : (m + 1) < 8
        · have hc8 : decide ((8 : Int) ≤ (((m + 1) : Nat) : Int)) = false := by simp; omega
          have hc8b : decide (8 ≤ (m + 1)) = false := by simp; omega
          have hc8c : ¬ (8 ≤ (m + 1)) := by omega
          have HGC := Lib.hid (grow_right HCC.out p q hp9 hq9 HLA.out (by rw [HGT.out]; exact h8))
          have HPP := Lib.hid (fun u => parse_get (bs (TX ++ LN)) HSM2.out (c := growC G p q) (by rw [HPA.out, if_pos HGC.out]) u)
          clear hbig
          go_upto_region 12 with (first
            | (refine wpList_cat (by kernel_rfl) (.tmp 73) (.tmp 74) _ _ rfl TX LN (TX ++ LN) rfl rfl HCATB.out rfl ?_)
            | (go_at_call 12; (with_reducible refine (HPP.out _).mono ?_); rintro e u7 ⟨d0, d1, d2, d3, us, D, kd, rfl, hcg, hrc, hb⟩; have HX7 := Lib.hid (HX6.out.on hb); have HZ7 := Lib.hid (HZ6.out.below hb HZ6.out.lt); have HRD := Lib.hid hrc; have HCD := Lib.hid hcg; clear hb hcg hrc; clear e4; have e4 : u7.cell? ⟨w.heap.size, 4, none⟩ = some (.slice (some ⟨b, o, none⟩) ((m + 1)) c) := HX7.out.b.cell 4; have e4b : (u7.alloc (.cells #[.int .i64 d0, .int .i64 d1, .int .i64 d2, .int .i64 d3, .slice D us.length kd] 24)).cell? ⟨w.heap.size, 4, none⟩ = some (.slice (some ⟨b, o, none⟩) ((m + 1)) c) := (HX7.out.alloc1 _).b.cell 4))
          have HB8 := Lib.hid (show Bk (u7.alloc (.cells #[.int .i64 d0, .int .i64 d1, .int .i64 d2, .int .i64 d3, .slice D us.length kd] 24)) u7.heap.size 24 #[.int .i64 d0, .int .i64 d1, .int .i64 d2, .int .i64 d3, .slice D us.length kd] from Bk.new u7 _ _)
          have HX8 := Lib.hid (HX7.out.alloc1 (.cells #[.int .i64 d0, .int .i64 d1, .int .i64 d2, .int .i64 d3, .slice D us.length kd] 24))
          have HZ8 := Lib.hid (HZ7.out.alloc (.cells #[.int .i64 d0, .int .i64 d1, .int .i64 d2, .int .i64 d3, .slice D us.length kd] 24))
          have HR8 := Lib.hid (show RC (u7.alloc (.cells #[.int .i64 d0, .int .i64 d1, .int .i64 d2, .int .i64 d3, .slice D us.length kd] 24)) ⟨d0, d1, d2, d3, us, D, kd⟩ from HRD.out.on ((Below.refl _ _).alloc (Nat.le_refl _) _))
          obtain ⟨w8, hw8⟩ : ∃ v, u7.alloc (.cells #[.int .i64 d0, .int .i64 d1, .int .i64 d2, .int .i64 d3, .slice D us.length kd] 24) = v := ⟨_, rfl⟩
          rw [hw8] at HB8 HX8 HZ8 HR8 ⊢
          obtain ⟨g7, hg7⟩ : ∃ g, u7.heap.size = g := ⟨_, rfl⟩
          rw [hg7] at HB8 ⊢
          clear hw8 hg7 HX7 HZ7 HX6 HZ6 HRD e4 e4b
          have e0 : w8.cell? ⟨w.heap.size, 0, none⟩ = some (.int .i64 a0) := HX8.out.b.cell 0
          have e1 : w8.cell? ⟨w.heap.size, 1, none⟩ = some (.int .i64 a1) := HX8.out.b.cell 1
          have e2 : w8.cell? ⟨w.heap.size, 2, none⟩ = some (.int .i64 a2) := HX8.out.b.cell 2
          have e3 : w8.cell? ⟨w.heap.size, 3, none⟩ = some (.int .i64 a3) := HX8.out.b.cell 3
          have e4 : w8.cell? ⟨w.heap.size, 4, none⟩ = some (.slice (some ⟨b, o, none⟩) (m + 1) c) := HX8.out.b.cell 4
          go_upto_region 13 with fail
          have HYS := Lib.hid HX8.out.l.size
          have HXD := Lib.hid (show Bx w w8.heap.size 24 #[.int .i64 a0, .int .i64 a1, .int .i64 a2, .int .i64 a3, .slice (some ⟨b, o, none⟩) (m + 1) c] (w8.alloc (.cells #[.int .i64 a0, .int .i64 a1, .int .i64 a2, .int .i64 a3, .slice (some ⟨b, o, none⟩) (m + 1) c] 24)) from ⟨Bk.new w8 _ _, HX8.out.l.alloc HYS.out _⟩)
          have HXE := Lib.hid (show Bx w w.heap.size 24 #[.int .i64 a0, .int .i64 a1, .int .i64 a2, .int .i64 a3, .slice (some ⟨b, o, none⟩) (m + 1) c] (w8.alloc (.cells #[.int .i64 a0, .int .i64 a1, .int .i64 a2, .int .i64 a3, .slice (some ⟨b, o, none⟩) (m + 1) c] 24)) from HX8.out.alloc1 _)
          have HB9 := Lib.hid (HB8.out.alloc (.cells #[.int .i64 a0, .int .i64 a1, .int .i64 a2, .int .i64 a3, .slice (some ⟨b, o, none⟩) (m + 1) c] 24))
          have HZ9 := Lib.hid (HZ8.out.alloc (.cells #[.int .i64 a0, .int .i64 a1, .int .i64 a2, .int .i64 a3, .slice (some ⟨b, o, none⟩) (m + 1) c] 24))
          have HR9 := Lib.hid (HR8.out.on ((Below.refl _ _).alloc (Nat.le_refl _) (.cells #[.int .i64 a0, .int .i64 a1, .int .i64 a2, .int .i64 a3, .slice (some ⟨b, o, none⟩) (m + 1) c] 24)))
          have HGD := Lib.hid (show w.heap.size < w8.heap.size ∧ g7 < w8.heap.size ∧ g9 < w8.heap.size from ⟨HX8.out.b.lt, HB8.out.lt, HZ8.out.lt⟩)
          have HSZ := Lib.hid (World.size_alloc w8 (.cells #[.int .i64 a0, .int .i64 a1, .int .i64 a2, .int .i64 a3, .slice (some ⟨b, o, none⟩) (m + 1) c] 24))
          obtain ⟨v3, hv3⟩ : ∃ v, w8.alloc (.cells #[.int .i64 a0, .int .i64 a1, .int .i64 a2, .int .i64 a3, .slice (some ⟨b, o, none⟩) (m + 1) c] 24) = v := ⟨_, rfl⟩
          rw [hv3] at HXD HXE HSZ HB9 HZ9 HR9 ⊢
          obtain ⟨gd, hgd⟩ : ∃ g, w8.heap.size = g := ⟨_, rfl⟩
          rw [hgd] at HXD HGD HSZ HYS ⊢
          have HRW := Lib.hid (show ∀ u, Below gd v3 u → Bk u g7 24 #[.int .i64 d0, .int .i64 d1, .int .i64 d2, .int .i64 d3, .slice D us.length kd] ∧ Bk u g9 38 #[.string ⟨#[122, 122]⟩, .int .i64 (p : Int), .int .i64 (q : Int), .slice none 0 0, .slice none 0 0] ∧ Bk u w.heap.size 24 #[.int .i64 a0, .int .i64 a1, .int .i64 a2, .int .i64 a3, .slice (some ⟨b, o, none⟩) (m + 1) c] ∧ Below w.heap.size w u from fun u hu => ⟨HB9.out.below hu HGD.out.2.1, HZ9.out.below hu HGD.out.2.2, HXE.out.b.below hu HGD.out.1, HXE.out.l.trans (hu.mono HYS.out)⟩)
          have HR10 := Lib.hid (show RC w8 ⟨d0, d1, d2, d3, us, D, kd⟩ from HR8.out)
          have HV3 := Lib.hid (show Below gd w8 v3 by rw [← hgd, ← hv3]; exact (Below.refl _ _).alloc (Nat.le_refl _) _)
          have HGDE := Lib.hid hgd
          clear hv3 hgd HX8 HB8 HZ8 HB9 HZ9 HR9 HR8 e0 e1 e2 e3 e4
          try simp only [List.cons_append, List.nil_append]
          refine wp_region_held_drew (S := fun wz => Below gd v3 wz) (by kernel_rfl) ((Below.refl _ _).drew) (fun hHeld => ?_)
          refine take_at (some 95) (i := 1) (v := ?_) rfl rfl (by kernel_rfl) (by kernel_rfl) (by kernel_rfl) (fun _ _ _ h => h) (Or.inl ⟨by kernel_rfl, ?_⟩) hHeld ?_
          rotate_left
          · intro wz hSw; obtain ⟨f1, f2, f3, hbw⟩ := HRW.out wz hSw; have q4 : wz.cell? ⟨w.heap.size, 4, none⟩ = some (.slice (some ⟨b, o, none⟩) ((m + 1)) c) := f3.cell 4; have z0 : wz.cell? ⟨g9, 0, none⟩ = some (Value.string ⟨#[122, 122]⟩) := f2.cell 0; have z1 : wz.cell? ⟨g9, 1, none⟩ = some (.int .i64 (p : Int)) := f2.cell 1; have z2 : wz.cell? ⟨g9, 2, none⟩ = some (.int .i64 (q : Int)) := f2.cell 2; have z3 : wz.cell? ⟨g9, 3, none⟩ = some (.slice none 0 0) := f2.cell 3; have z4 : wz.cell? ⟨g9, 4, none⟩ = some (.slice none 0 0) := f2.cell 4; go_simp; try (with_reducible rfl)
          try simp only [Act.put, List.setIfInBounds_toArray, List.set_cons_zero, List.set_cons_succ, List.getElem_toArray, List.getElem_cons_succ, List.getElem_cons_zero]
          refine take_at (some 96) (i := 2) (v := ?_) rfl rfl (by kernel_rfl) (by kernel_rfl) (by kernel_rfl) (fun _ _ _ h => h) (Or.inl ⟨by kernel_rfl, ?_⟩) hHeld ?_
          rotate_left
          · intro wz hSw; obtain ⟨f1, f2, f3, hbw⟩ := HRW.out wz hSw; have q4 : wz.cell? ⟨w.heap.size, 4, none⟩ = some (.slice (some ⟨b, o, none⟩) ((m + 1)) c) := f3.cell 4; have z0 : wz.cell? ⟨g9, 0, none⟩ = some (Value.string ⟨#[122, 122]⟩) := f2.cell 0; have z1 : wz.cell? ⟨g9, 1, none⟩ = some (.int .i64 (p : Int)) := f2.cell 1; have z2 : wz.cell? ⟨g9, 2, none⟩ = some (.int .i64 (q : Int)) := f2.cell 2; have z3 : wz.cell? ⟨g9, 3, none⟩ = some (.slice none 0 0) := f2.cell 3; have z4 : wz.cell? ⟨g9, 4, none⟩ = some (.slice none 0 0) := f2.cell 4; go_simp; try (with_reducible rfl)
          try simp only [Act.put, List.setIfInBounds_toArray, List.set_cons_zero, List.set_cons_succ, List.getElem_toArray, List.getElem_cons_succ, List.getElem_cons_zero]
          refine take_at (some 98) (i := 4) (v := ?_) rfl rfl (by kernel_rfl) (by kernel_rfl) (by kernel_rfl) (fun _ _ _ h => h) (Or.inl ⟨by kernel_rfl, ?_⟩) hHeld ?_
          rotate_left
          · intro wz hSw; obtain ⟨f1, f2, f3, hbw⟩ := HRW.out wz hSw; have q4 : wz.cell? ⟨w.heap.size, 4, none⟩ = some (.slice (some ⟨b, o, none⟩) ((m + 1)) c) := f3.cell 4; have z0 : wz.cell? ⟨g9, 0, none⟩ = some (Value.string ⟨#[122, 122]⟩) := f2.cell 0; have z1 : wz.cell? ⟨g9, 1, none⟩ = some (.int .i64 (p : Int)) := f2.cell 1; have z2 : wz.cell? ⟨g9, 2, none⟩ = some (.int .i64 (q : Int)) := f2.cell 2; have z3 : wz.cell? ⟨g9, 3, none⟩ = some (.slice none 0 0) := f2.cell 3; have z4 : wz.cell? ⟨g9, 4, none⟩ = some (.slice none 0 0) := f2.cell 4; go_simp; try (with_reducible rfl)
          try simp only [Act.put, List.setIfInBounds_toArray, List.set_cons_zero, List.set_cons_succ, List.getElem_toArray, List.getElem_cons_succ, List.getElem_cons_zero]
          have HB0 := Lib.hid (show gd ≤ v3.heap.size by have := HSZ.out; omega)
          have HBD := Lib.hid (show gd < v3.heap.size by have := HSZ.out; omega)
          refine wpAnyH_ready (rs := [0, 5]) (by kernel_rfl) (by simp) (AllReadyH.cons rfl (fun K hK => ?_) (AllReadyH.cons rfl (fun K hK => ?_) AllReadyH.nil))
          · rw [if_pos (by kernel_rfl)]
            go_simp
            refine hK.out _ _ ((Below.refl _ _).drew.alloc HB0.out _) (fun hHeld => ?_)
            try simp only [Act.put, List.setIfInBounds_toArray, List.set_cons_zero, List.set_cons_succ, List.getElem_toArray, List.getElem_cons_succ, List.getElem_cons_zero]
            refine gen_anyC (fun u => Below gd v3 u ∧ Bk u gd 24 #[.int .i64 a0, .int .i64 a1, .int .i64 a2, .int .i64 a3, .slice (some ⟨b, o, none⟩) (m + 1) c] ∧ OT u v3.heap.size (some ⟨v3.heap.size, 0, none⟩) 0 []) ⟨hHeld, (HXD.out.b.drew).alloc _, Ow.empty v3.drew v3.heap.size (Nat.le_refl _)⟩ (fun x1 hx1 => ?_)
            clear hHeld
            refine wpAnyH_ready (rs := [3, 5]) (by kernel_rfl) (by simp) (AllReadyH.cons rfl (fun K hK => ?_) (AllReadyH.cons rfl (fun K hK => ?_) AllReadyH.nil))
            · rw [if_pos (by kernel_rfl)]
              refine op_rows roT (.tmp 94) (.tmp 96) rfl 0 rfl rfl hx1.2.2 ts _ ((m + 1)) c rfl HN.out HNIL.out (HRC.out.r.r.on (HXE.out.l.trans (hx1.1.mono HYS.out))) (by have := HN3.out; omega) hx1.1.size ((m + 1)) (Nat.zero_add _) ?_
              intro A1 c1 x2 hox2 hgx2 hbx2
              rw [List.nil_append] at hox2
              refine hK.out _ _ (hx1.1.trans (hbx2.mono HB0.out)) (fun hHeld => ?_)
              try simp only [Act.put, List.setIfInBounds_toArray, List.set_cons_zero, List.set_cons_succ, List.getElem_toArray, List.getElem_cons_succ, List.getElem_cons_zero]
              refine wpAnyH_ready (rs := [5]) (by kernel_rfl) (by simp) (AllReadyH.cons rfl (fun K hK => ?_) AllReadyH.nil)
              rw [if_pos (by kernel_rfl)]
              go_simp
              refine hK.out _ _ ((hx1.1.trans (hbx2.mono HB0.out)).alloc (Nat.le_trans HB0.out (hx1.1.trans (hbx2.mono HB0.out)).size) _) (fun hHeld => ?_)
              try simp only [Act.put, List.setIfInBounds_toArray, List.set_cons_zero, List.set_cons_succ, List.getElem_toArray, List.getElem_cons_succ, List.getElem_cons_zero]
              refine gen_anyC (fun u => Below gd v3 u ∧ Bk u gd 24 #[.int .i64 a0, .int .i64 a1, .int .i64 a2, .int .i64 a3, .slice (some ⟨b, o, none⟩) (m + 1) c] ∧ Bk u x2.heap.size 38 (tcs (⟨zzT p q, none, 0, none, 0⟩ : Tv)) ∧ OT u v3.heap.size A1 c1 ts) ⟨hHeld, (hx1.2.1.below hbx2 HBD.out).alloc _, Bk.new x2 _ _, hox2.on ((Below.refl _ _).alloc (Nat.le_refl _) _)⟩ (fun x3 hx3 => ?_)
              clear hHeld
              refine wpAnyH_ready (rs := [6]) (by kernel_rfl) (by simp) (AllReadyH.cons rfl (fun K hK => ?_) AllReadyH.nil)
              rw [if_pos (by kernel_rfl)]
              refine op_rows roT (.tmp 97) (.tmp 99) rfl ((m + 1)) rfl HN.out hx3.2.2.2 [(⟨zzT p q, none, 0, none, 0⟩ : Tv)] (some ⟨x2.heap.size, 0, none⟩) 1 1 rfl rfl (fun h => by cases h) (Rw.bk hx3.2.2.1) (by have := HN3.out; omega) hx3.1.size ((m + 1) + 1) rfl ?_
              intro A2 c2 x4 ho4 hg4 hb4
              have hbl4 := hx3.1.trans (hb4.mono HB0.out)
              have hgd4 := (hx3.2.1).below hb4 HBD.out
              have d4 : x4.cell? ⟨gd, 4, none⟩ = some (.slice (some ⟨b, o, none⟩) ((m + 1)) c) := hgd4.cell 4
              have f4 := hgd4.frozen 4
              refine hK.out _ _ hbl4 (fun hHeld => ?_)
              try simp only [Act.put, List.setIfInBounds_toArray, List.set_cons_zero, List.set_cons_succ, List.getElem_toArray, List.getElem_cons_succ, List.getElem_cons_zero]
              refine take_at (some 101) (i := 7) (v := ?_) rfl rfl (by kernel_rfl) (by kernel_rfl) (by kernel_rfl) (fun _ _ _ h => h) (Or.inl ⟨by kernel_rfl, ?_⟩) hHeld ?_
              rotate_left
              · intro wz hSw; go_simp; try (with_reducible rfl)
              try simp only [Act.put, List.setIfInBounds_toArray, List.set_cons_zero, List.set_cons_succ, List.getElem_toArray, List.getElem_cons_succ, List.getElem_cons_zero]
              refine wpAnyH_ready (rs := [8]) (by kernel_rfl) (by simp) (AllReadyH.cons rfl (fun K hK => ?_) AllReadyH.nil)
              rw [if_pos (by kernel_rfl)]
              go_simp
              refine hK.out _ _ (hbl4.setCell (p := ⟨gd, 4, none⟩) (Nat.le_refl _) _) (fun hHeld => ?_)
              try simp only [Act.put, List.setIfInBounds_toArray, List.set_cons_zero, List.set_cons_succ, List.getElem_toArray, List.getElem_cons_succ, List.getElem_cons_zero]
              refine wpAnyH_done (by kernel_rfl) ?_ _
              have hbs4 := hbl4.setCell (p := ⟨gd, 4, none⟩) (Nat.le_refl _) (.slice A2 ((m + 1) + 1) c2)
              have HBW4 := Lib.hid ((HRW.out _ hbs4).2.2.2)
              refine gen_qC (fun u => Bk u gd 24 #[.int .i64 a0, .int .i64 a1, .int .i64 a2, .int .i64 a3, .slice A2 ((m + 1) + 1) c2] ∧ RC u ⟨a0, a1, a2, a3, ts ++ [(⟨zzT p q, none, 0, none, 0⟩ : Tv)], A2, c2⟩ ∧ Below gd v3 u) ⟨?_, ?_, hbs4⟩ (fun y5 hy5 => ?_)
              · have := hgd4.set 4 (.slice A2 ((m + 1) + 1) c2)
                simpa only [List.setIfInBounds_toArray, List.set_cons_zero, List.set_cons_succ] using this
              · have ho5 := ho4.set (p := ⟨gd, 4, none⟩) HBD.out (.slice A2 ((m + 1) + 1) c2)
                refine ⟨⟨ho5.rw_ tcs_size, fun yy hyy => ?_⟩, ho5.fit⟩
                rcases List.mem_append.1 hyy with hyy | hyy
                · exact (HRC.out.r.each yy hyy).on HBW4.out
                · rw [List.mem_singleton.1 hyy]; exact zz_rt _ p q
              clear hHeld hbl4 hgd4 ho4 hg4 hb4 d4 f4 HBW4 hbs4
              obtain ⟨yd, yr, yl⟩ := hy5
              have HYR := Lib.hid yr
              obtain ⟨k7, -, -, kw⟩ := HRW.out y5 yl
              have HKW := Lib.hid kw
              have HSA := Lib.hid (fun v (hv : Below y5.heap.size y5 v) => same_c ⟨d0, d1, d2, d3, us, D, kd⟩ ⟨a0, a1, a2, a3, ts ++ [(⟨zzT p q, none, 0, none, 0⟩ : Tv)], A2, c2⟩ v (HR10.out.on ((show Below w8.heap.size w8 y5 from by rw [HGDE.out]; exact HV3.out.trans yl).trans (hv.mono (by have := HSZ.out; have := yl.size; have := HGDE.out; omega)))) (HYR.out.on hv) (by rw [HCD.out, growC, ← HG9.out]; simp only [Cv.cg, List.map_append, List.map_cons, List.map_nil]))
              have hl9 : (ts ++ [(⟨zzT p q, none, 0, none, 0⟩ : Tv)]).length = (m + 1) + 1 := by rw [List.length_append, HN.out]; rfl
              simp only [ccs, hl9] at HSA
              have k0 : y5.cell? ⟨g7, 0, none⟩ = some (.int .i64 d0) := k7.cell 0
              have k1 : y5.cell? ⟨g7, 1, none⟩ = some (.int .i64 d1) := k7.cell 1
              have k2 : y5.cell? ⟨g7, 2, none⟩ = some (.int .i64 d2) := k7.cell 2
              have k3 : y5.cell? ⟨g7, 3, none⟩ = some (.int .i64 d3) := k7.cell 3
              have k4 : y5.cell? ⟨g7, 4, none⟩ = some (.slice D us.length kd) := k7.cell 4
              have y0 : y5.cell? ⟨gd, 0, none⟩ = some (.int .i64 a0) := yd.cell 0
              have y1 : y5.cell? ⟨gd, 1, none⟩ = some (.int .i64 a1) := yd.cell 1
              have y2 : y5.cell? ⟨gd, 2, none⟩ = some (.int .i64 a2) := yd.cell 2
              have y3 : y5.cell? ⟨gd, 3, none⟩ = some (.int .i64 a3) := yd.cell 3
              have y4 : y5.cell? ⟨gd, 4, none⟩ = some (.slice A2 ((m + 1) + 1) c2) := yd.cell 4
              clear yd yr yl k7 kw hl9
              go_wp2_with (go_at_call 13; (with_reducible refine (HSA.out _ (Below.refl _ _)).mono ?_); rintro e q1 ⟨rfl, hb⟩)
              go_ret
              exact ⟨rfl, HKW.out.trans (hb.mono HKW.out.size)⟩
            · rw [if_pos (by kernel_rfl)]
              go_simp
              refine hK.out _ _ (hx1.1.alloc (Nat.le_trans HB0.out hx1.1.size) _) (fun hHeld => ?_)
              try simp only [Act.put, List.setIfInBounds_toArray, List.set_cons_zero, List.set_cons_succ, List.getElem_toArray, List.getElem_cons_succ, List.getElem_cons_zero]
              refine gen_anyC (fun u => Below gd v3 u ∧ Bk u gd 24 #[.int .i64 a0, .int .i64 a1, .int .i64 a2, .int .i64 a3, .slice (some ⟨b, o, none⟩) (m + 1) c] ∧ Bk u x1.heap.size 38 (tcs (⟨zzT p q, none, 0, none, 0⟩ : Tv)) ∧ OT u v3.heap.size (some ⟨v3.heap.size, 0, none⟩) 0 []) ⟨hHeld, hx1.2.1.alloc _, Bk.new x1 _ _, hx1.2.2.on ((Below.refl _ _).alloc (Nat.le_refl _) _)⟩ (fun x2 hx2 => ?_)
              clear hHeld
              have hlt1 : v3.heap.size < x1.heap.size := (hx1.2.2.block 0 _ rfl).2.1
              refine wpAnyH_ready (rs := [3]) (by kernel_rfl) (by simp) (AllReadyH.cons rfl (fun K hK => ?_) AllReadyH.nil)
              rw [if_pos (by kernel_rfl)]
              refine op_rows roT (.tmp 94) (.tmp 96) rfl 0 rfl rfl hx2.2.2.2 ts _ ((m + 1)) c rfl HN.out HNIL.out (HRC.out.r.r.on (HXE.out.l.trans (hx2.1.mono HYS.out))) (by have := HN3.out; omega) hx2.1.size ((m + 1)) (Nat.zero_add _) ?_
              intro A1 c1 x3 hox3 hgx3 hbx3
              rw [List.nil_append] at hox3
              refine hK.out _ _ (hx2.1.trans (hbx3.mono HB0.out)) (fun hHeld => ?_)
              try simp only [Act.put, List.setIfInBounds_toArray, List.set_cons_zero, List.set_cons_succ, List.getElem_toArray, List.getElem_cons_succ, List.getElem_cons_zero]
              refine wpAnyH_ready (rs := [6]) (by kernel_rfl) (by simp) (AllReadyH.cons rfl (fun K hK => ?_) AllReadyH.nil)
              rw [if_pos (by kernel_rfl)]
              refine op_rows roT (.tmp 97) (.tmp 99) rfl ((m + 1)) rfl HN.out hox3 [(⟨zzT p q, none, 0, none, 0⟩ : Tv)] (some ⟨x1.heap.size, 0, none⟩) 1 1 rfl rfl (fun h => by cases h) (Rw.bk ((hgx3.block x1.heap.size hx2.2.2.1.lt (fun e => by injection e with e; dsimp only at e; omega)).trans hx2.2.2.1)) (by have := HN3.out; omega) (hx2.1.trans (hbx3.mono HB0.out)).size ((m + 1) + 1) rfl ?_
              intro A2 c2 x4 ho4 hg4 hb4
              have hbl4 := (hx2.1.trans (hbx3.mono HB0.out)).trans (hb4.mono HB0.out)
              have hgd4 := ((hx2.2.1.below hbx3 HBD.out)).below hb4 HBD.out
              have d4 : x4.cell? ⟨gd, 4, none⟩ = some (.slice (some ⟨b, o, none⟩) ((m + 1)) c) := hgd4.cell 4
              have f4 := hgd4.frozen 4
              refine hK.out _ _ hbl4 (fun hHeld => ?_)
              try simp only [Act.put, List.setIfInBounds_toArray, List.set_cons_zero, List.set_cons_succ, List.getElem_toArray, List.getElem_cons_succ, List.getElem_cons_zero]
              refine take_at (some 101) (i := 7) (v := ?_) rfl rfl (by kernel_rfl) (by kernel_rfl) (by kernel_rfl) (fun _ _ _ h => h) (Or.inl ⟨by kernel_rfl, ?_⟩) hHeld ?_
              rotate_left
              · intro wz hSw; go_simp; try (with_reducible rfl)
              try simp only [Act.put, List.setIfInBounds_toArray, List.set_cons_zero, List.set_cons_succ, List.getElem_toArray, List.getElem_cons_succ, List.getElem_cons_zero]
              refine wpAnyH_ready (rs := [8]) (by kernel_rfl) (by simp) (AllReadyH.cons rfl (fun K hK => ?_) AllReadyH.nil)
              rw [if_pos (by kernel_rfl)]
              go_simp
              refine hK.out _ _ (hbl4.setCell (p := ⟨gd, 4, none⟩) (Nat.le_refl _) _) (fun hHeld => ?_)
              try simp only [Act.put, List.setIfInBounds_toArray, List.set_cons_zero, List.set_cons_succ, List.getElem_toArray, List.getElem_cons_succ, List.getElem_cons_zero]
              refine wpAnyH_done (by kernel_rfl) ?_ _
              have hbs4 := hbl4.setCell (p := ⟨gd, 4, none⟩) (Nat.le_refl _) (.slice A2 ((m + 1) + 1) c2)
              have HBW4 := Lib.hid ((HRW.out _ hbs4).2.2.2)
              refine gen_qC (fun u => Bk u gd 24 #[.int .i64 a0, .int .i64 a1, .int .i64 a2, .int .i64 a3, .slice A2 ((m + 1) + 1) c2] ∧ RC u ⟨a0, a1, a2, a3, ts ++ [(⟨zzT p q, none, 0, none, 0⟩ : Tv)], A2, c2⟩ ∧ Below gd v3 u) ⟨?_, ?_, hbs4⟩ (fun y5 hy5 => ?_)
              · have := hgd4.set 4 (.slice A2 ((m + 1) + 1) c2)
                simpa only [List.setIfInBounds_toArray, List.set_cons_zero, List.set_cons_succ] using this
              · have ho5 := ho4.set (p := ⟨gd, 4, none⟩) HBD.out (.slice A2 ((m + 1) + 1) c2)
                refine ⟨⟨ho5.rw_ tcs_size, fun yy hyy => ?_⟩, ho5.fit⟩
                rcases List.mem_append.1 hyy with hyy | hyy
                · exact (HRC.out.r.each yy hyy).on HBW4.out
                · rw [List.mem_singleton.1 hyy]; exact zz_rt _ p q
              clear hHeld hbl4 hgd4 ho4 hg4 hb4 d4 f4 HBW4 hbs4
              obtain ⟨yd, yr, yl⟩ := hy5
              have HYR := Lib.hid yr
              obtain ⟨k7, -, -, kw⟩ := HRW.out y5 yl
              have HKW := Lib.hid kw
              have HSA := Lib.hid (fun v (hv : Below y5.heap.size y5 v) => same_c ⟨d0, d1, d2, d3, us, D, kd⟩ ⟨a0, a1, a2, a3, ts ++ [(⟨zzT p q, none, 0, none, 0⟩ : Tv)], A2, c2⟩ v (HR10.out.on ((show Below w8.heap.size w8 y5 from by rw [HGDE.out]; exact HV3.out.trans yl).trans (hv.mono (by have := HSZ.out; have := yl.size; have := HGDE.out; omega)))) (HYR.out.on hv) (by rw [HCD.out, growC, ← HG9.out]; simp only [Cv.cg, List.map_append, List.map_cons, List.map_nil]))
              have hl9 : (ts ++ [(⟨zzT p q, none, 0, none, 0⟩ : Tv)]).length = (m + 1) + 1 := by rw [List.length_append, HN.out]; rfl
              simp only [ccs, hl9] at HSA
              have k0 : y5.cell? ⟨g7, 0, none⟩ = some (.int .i64 d0) := k7.cell 0
              have k1 : y5.cell? ⟨g7, 1, none⟩ = some (.int .i64 d1) := k7.cell 1
              have k2 : y5.cell? ⟨g7, 2, none⟩ = some (.int .i64 d2) := k7.cell 2
              have k3 : y5.cell? ⟨g7, 3, none⟩ = some (.int .i64 d3) := k7.cell 3
              have k4 : y5.cell? ⟨g7, 4, none⟩ = some (.slice D us.length kd) := k7.cell 4
              have y0 : y5.cell? ⟨gd, 0, none⟩ = some (.int .i64 a0) := yd.cell 0
              have y1 : y5.cell? ⟨gd, 1, none⟩ = some (.int .i64 a1) := yd.cell 1
              have y2 : y5.cell? ⟨gd, 2, none⟩ = some (.int .i64 a2) := yd.cell 2
              have y3 : y5.cell? ⟨gd, 3, none⟩ = some (.int .i64 a3) := yd.cell 3
              have y4 : y5.cell? ⟨gd, 4, none⟩ = some (.slice A2 ((m + 1) + 1) c2) := yd.cell 4
              clear yd yr yl k7 kw hl9
              go_wp2_with (go_at_call 13; (with_reducible refine (HSA.out _ (Below.refl _ _)).mono ?_); rintro e q1 ⟨rfl, hb⟩)
              go_ret
              exact ⟨rfl, HKW.out.trans (hb.mono HKW.out.size)⟩
          · rw [if_pos (by kernel_rfl)]
            go_simp
            refine hK.out _ _ ((Below.refl _ _).drew.alloc HB0.out _) (fun hHeld => ?_)
            try simp only [Act.put, List.setIfInBounds_toArray, List.set_cons_zero, List.set_cons_succ, List.getElem_toArray, List.getElem_cons_succ, List.getElem_cons_zero]
            refine gen_anyC (fun u => Below gd v3 u ∧ Bk u gd 24 #[.int .i64 a0, .int .i64 a1, .int .i64 a2, .int .i64 a3, .slice (some ⟨b, o, none⟩) (m + 1) c] ∧ Bk u v3.heap.size 38 (tcs (⟨zzT p q, none, 0, none, 0⟩ : Tv))) ⟨hHeld, (HXD.out.b.drew).alloc _, Bk.new v3.drew _ _⟩ (fun x1 hx1 => ?_)
            clear hHeld
            refine wpAnyH_ready (rs := [0]) (by kernel_rfl) (by simp) (AllReadyH.cons rfl (fun K hK => ?_) AllReadyH.nil)
            rw [if_pos (by kernel_rfl)]
            go_simp
            refine hK.out _ _ (hx1.1.alloc (Nat.le_trans HB0.out hx1.1.size) _) (fun hHeld => ?_)
            try simp only [Act.put, List.setIfInBounds_toArray, List.set_cons_zero, List.set_cons_succ, List.getElem_toArray, List.getElem_cons_succ, List.getElem_cons_zero]
            refine gen_anyC (fun u => Below gd v3 u ∧ Bk u gd 24 #[.int .i64 a0, .int .i64 a1, .int .i64 a2, .int .i64 a3, .slice (some ⟨b, o, none⟩) (m + 1) c] ∧ OT u v3.heap.size (some ⟨x1.heap.size, 0, none⟩) 0 [] ∧ Bk u v3.heap.size 38 (tcs (⟨zzT p q, none, 0, none, 0⟩ : Tv))) ⟨hHeld, hx1.2.1.alloc _, Ow.empty x1 v3.heap.size (hx1.1.size), hx1.2.2.alloc _⟩ (fun x2 hx2 => ?_)
            clear hHeld
            have hlt1 : v3.heap.size < x1.heap.size := hx1.2.2.lt
            refine wpAnyH_ready (rs := [3]) (by kernel_rfl) (by simp) (AllReadyH.cons rfl (fun K hK => ?_) AllReadyH.nil)
            rw [if_pos (by kernel_rfl)]
            refine op_rows roT (.tmp 94) (.tmp 96) rfl 0 rfl rfl hx2.2.2.1 ts _ ((m + 1)) c rfl HN.out HNIL.out (HRC.out.r.r.on (HXE.out.l.trans (hx2.1.mono HYS.out))) (by have := HN3.out; omega) hx2.1.size ((m + 1)) (Nat.zero_add _) ?_
            intro A1 c1 x3 hox3 hgx3 hbx3
            rw [List.nil_append] at hox3
            refine hK.out _ _ (hx2.1.trans (hbx3.mono HB0.out)) (fun hHeld => ?_)
            try simp only [Act.put, List.setIfInBounds_toArray, List.set_cons_zero, List.set_cons_succ, List.getElem_toArray, List.getElem_cons_succ, List.getElem_cons_zero]
            refine wpAnyH_ready (rs := [6]) (by kernel_rfl) (by simp) (AllReadyH.cons rfl (fun K hK => ?_) AllReadyH.nil)
            rw [if_pos (by kernel_rfl)]
            refine op_rows roT (.tmp 97) (.tmp 99) rfl ((m + 1)) rfl HN.out hox3 [(⟨zzT p q, none, 0, none, 0⟩ : Tv)] (some ⟨v3.heap.size, 0, none⟩) 1 1 rfl rfl (fun h => by cases h) (Rw.bk ((hgx3.block v3.heap.size hx2.2.2.2.lt (fun e => by injection e with e; dsimp only at e; omega)).trans hx2.2.2.2)) (by have := HN3.out; omega) (hx2.1.trans (hbx3.mono HB0.out)).size ((m + 1) + 1) rfl ?_
            intro A2 c2 x4 ho4 hg4 hb4
            have hbl4 := (hx2.1.trans (hbx3.mono HB0.out)).trans (hb4.mono HB0.out)
            have hgd4 := ((hx2.2.1.below hbx3 HBD.out)).below hb4 HBD.out
            have d4 : x4.cell? ⟨gd, 4, none⟩ = some (.slice (some ⟨b, o, none⟩) ((m + 1)) c) := hgd4.cell 4
            have f4 := hgd4.frozen 4
            refine hK.out _ _ hbl4 (fun hHeld => ?_)
            try simp only [Act.put, List.setIfInBounds_toArray, List.set_cons_zero, List.set_cons_succ, List.getElem_toArray, List.getElem_cons_succ, List.getElem_cons_zero]
            refine take_at (some 101) (i := 7) (v := ?_) rfl rfl (by kernel_rfl) (by kernel_rfl) (by kernel_rfl) (fun _ _ _ h => h) (Or.inl ⟨by kernel_rfl, ?_⟩) hHeld ?_
            rotate_left
            · intro wz hSw; go_simp; try (with_reducible rfl)
            try simp only [Act.put, List.setIfInBounds_toArray, List.set_cons_zero, List.set_cons_succ, List.getElem_toArray, List.getElem_cons_succ, List.getElem_cons_zero]
            refine wpAnyH_ready (rs := [8]) (by kernel_rfl) (by simp) (AllReadyH.cons rfl (fun K hK => ?_) AllReadyH.nil)
            rw [if_pos (by kernel_rfl)]
            go_simp
            refine hK.out _ _ (hbl4.setCell (p := ⟨gd, 4, none⟩) (Nat.le_refl _) _) (fun hHeld => ?_)
            try simp only [Act.put, List.setIfInBounds_toArray, List.set_cons_zero, List.set_cons_succ, List.getElem_toArray, List.getElem_cons_succ, List.getElem_cons_zero]
            refine wpAnyH_done (by kernel_rfl) ?_ _
            have hbs4 := hbl4.setCell (p := ⟨gd, 4, none⟩) (Nat.le_refl _) (.slice A2 ((m + 1) + 1) c2)
            have HBW4 := Lib.hid ((HRW.out _ hbs4).2.2.2)
            refine gen_qC (fun u => Bk u gd 24 #[.int .i64 a0, .int .i64 a1, .int .i64 a2, .int .i64 a3, .slice A2 ((m + 1) + 1) c2] ∧ RC u ⟨a0, a1, a2, a3, ts ++ [(⟨zzT p q, none, 0, none, 0⟩ : Tv)], A2, c2⟩ ∧ Below gd v3 u) ⟨?_, ?_, hbs4⟩ (fun y5 hy5 => ?_)
            · have := hgd4.set 4 (.slice A2 ((m + 1) + 1) c2)
              simpa only [List.setIfInBounds_toArray, List.set_cons_zero, List.set_cons_succ] using this
            · have ho5 := ho4.set (p := ⟨gd, 4, none⟩) HBD.out (.slice A2 ((m + 1) + 1) c2)
              refine ⟨⟨ho5.rw_ tcs_size, fun yy hyy => ?_⟩, ho5.fit⟩
              rcases List.mem_append.1 hyy with hyy | hyy
              · exact (HRC.out.r.each yy hyy).on HBW4.out
              · rw [List.mem_singleton.1 hyy]; exact zz_rt _ p q
            clear hHeld hbl4 hgd4 ho4 hg4 hb4 d4 f4 HBW4 hbs4
            obtain ⟨yd, yr, yl⟩ := hy5
            have HYR := Lib.hid yr
            obtain ⟨k7, -, -, kw⟩ := HRW.out y5 yl
            have HKW := Lib.hid kw
            have HSA := Lib.hid (fun v (hv : Below y5.heap.size y5 v) => same_c ⟨d0, d1, d2, d3, us, D, kd⟩ ⟨a0, a1, a2, a3, ts ++ [(⟨zzT p q, none, 0, none, 0⟩ : Tv)], A2, c2⟩ v (HR10.out.on ((show Below w8.heap.size w8 y5 from by rw [HGDE.out]; exact HV3.out.trans yl).trans (hv.mono (by have := HSZ.out; have := yl.size; have := HGDE.out; omega)))) (HYR.out.on hv) (by rw [HCD.out, growC, ← HG9.out]; simp only [Cv.cg, List.map_append, List.map_cons, List.map_nil]))
            have hl9 : (ts ++ [(⟨zzT p q, none, 0, none, 0⟩ : Tv)]).length = (m + 1) + 1 := by rw [List.length_append, HN.out]; rfl
            simp only [ccs, hl9] at HSA
            have k0 : y5.cell? ⟨g7, 0, none⟩ = some (.int .i64 d0) := k7.cell 0
            have k1 : y5.cell? ⟨g7, 1, none⟩ = some (.int .i64 d1) := k7.cell 1
            have k2 : y5.cell? ⟨g7, 2, none⟩ = some (.int .i64 d2) := k7.cell 2
            have k3 : y5.cell? ⟨g7, 3, none⟩ = some (.int .i64 d3) := k7.cell 3
            have k4 : y5.cell? ⟨g7, 4, none⟩ = some (.slice D us.length kd) := k7.cell 4
            have y0 : y5.cell? ⟨gd, 0, none⟩ = some (.int .i64 a0) := yd.cell 0
            have y1 : y5.cell? ⟨gd, 1, none⟩ = some (.int .i64 a1) := yd.cell 1
            have y2 : y5.cell? ⟨gd, 2, none⟩ = some (.int .i64 a2) := yd.cell 2
            have y3 : y5.cell? ⟨gd, 3, none⟩ = some (.int .i64 a3) := yd.cell 3
            have y4 : y5.cell? ⟨gd, 4, none⟩ = some (.slice A2 ((m + 1) + 1) c2) := yd.cell 4
            clear yd yr yl k7 kw hl9
            go_wp2_with (go_at_call 13; (with_reducible refine (HSA.out _ (Below.refl _ _)).mono ?_); rintro e q1 ⟨rfl, hb⟩)
            go_ret
            exact ⟨rfl, HKW.out.trans (hb.mono HKW.out.size)⟩
        · have hc8 : decide ((8 : Int) ≤ (((m + 1) : Nat) : Int)) = true := by simp; omega
          have hc8b : decide (8 ≤ (m + 1)) = true := by simp; omega
          have hc8c : 8 ≤ (m + 1) := by omega
          have HGC := Lib.hid (grow_wrong (c := G) p q (by rw [HGT.out]; exact h8))
          have HPP := Lib.hid (fun u => parse_bad (bs (TX ++ LN)) HSM2.out (n := (cfgLs G).length) (by rw [HPA.out, if_neg (by rw [HGC.out]; decide)]) u)
          obtain ⟨L, hL⟩ : ∃ L, (cfgLs G).length = L := ⟨_, rfl⟩
          have hLp : (0 : Int) < (L : Int) := by rw [← hL]; simp [cfgLs]
          have hL0 : 0 < L := by omega
          have hLd : decide (0 < L) = true := decide_eq_true hL0
          rw [hL] at HPP
          clear hbig hL
          go_wp2_with (first
            | (refine wpList_cat (by kernel_rfl) (.tmp 73) (.tmp 74) _ _ rfl TX LN (TX ++ LN) rfl rfl HCATB.out rfl ?_)
            | (go_at_call 12; (with_reducible refine (HPP.out _).mono ?_); rintro e u7 ⟨rfl, hb⟩; have HX7 := Lib.hid (HX6.out.on hb); clear hb; clear e4; have e4 : u7.cell? ⟨w.heap.size, 4, none⟩ = some (.slice (some ⟨b, o, none⟩) ((m + 1)) c) := HX7.out.b.cell 4; have e4b : (u7.alloc (.cells #[.int .i64 0, .int .i64 0, .int .i64 0, .int .i64 0, .slice none 0 0] 24)).cell? ⟨w.heap.size, 4, none⟩ = some (.slice (some ⟨b, o, none⟩) ((m + 1)) c) := (HX7.out.alloc1 _).b.cell 4))
          go_ret
          exact ⟨by first | rfl | (show Ending.returned (.bool (decide (0 < L))) = _; rw [hLd]) , HX7.out.l.alloc HX7.out.l.size _⟩
end Go.Proofs.YtfpjkedcpnmfeaaDoor
