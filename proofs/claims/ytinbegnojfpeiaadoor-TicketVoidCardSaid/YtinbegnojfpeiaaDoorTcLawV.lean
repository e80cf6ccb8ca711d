/- TicketVoid: a visitor's ticket that is void cannot be redeemed; others can: the walk. (Written by gen_tcvoid.py.) -/
import Derived.Test.YtinbegnojfpeiaaDoorTcH
import Derived.Test.YtinbegnojfpeiaaDoorTcV
namespace Go.Proofs.YtinbegnojfpeiaaDoor
set_option linter.unusedVariables false
set_option maxRecDepth 100000
set_option linter.unusedSimpArgs false
open Go.RowKit

set_option maxRecDepth 100000 in
set_option maxHeartbeats 16000000 in
theorem walk_TicketVoid (key : ByteArray) (M0 K0 : Nat) (W : World) (hk : key.size ≤ 140737488355328) (hM0 : M0 < 256) (hK0 : K0 < 256) (hG : Gl W) :
    Calls Tryd.prog 7 #[.string key, .int .u8 (M0 : Int), .int .u8 (K0 : Int)] W fun e w' => e = .returned (.bool true) ∧ Below W.heap.size W w' := by
  have HG := Lib.hid hG
  clear hG
  obtain ⟨n, hn⟩ : ∃ n, M0 % 20 = n := ⟨_, rfl⟩
  obtain ⟨k, hk0⟩ : ∃ k, K0 % 25 = k := ⟨_, rfl⟩
  have hn20 : n < 20 := by rw [← hn]; exact Nat.mod_lt _ (by omega)
  have hk25 : k < 25 := by rw [← hk0]; exact Nat.mod_lt _ (by omega)
  have hr1 : (M0 : Int) % 20 = (n : Int) := by rw [← hn]; rfl
  have hr2 : (K0 : Int) % 25 = (k : Int) := by rw [← hk0]; rfl
  have HR2 := Lib.hid hr2
  have hw1 : IntKind.i64.wrap (n : Int) = (n : Int) := (iwrap _ n rfl (by omega)).1
  have hw2 : IntKind.i64.wrap (k : Int) = (k : Int) := (iwrap _ k rfl (by omega)).1
  have HW2 := Lib.hid hw2
  obtain ⟨f, hf⟩ : ∃ f, tixT key dH = f := ⟨_, rfl⟩
  have HF := Lib.hid hf
  have HFS := Lib.hid (show ∀ j : Nat, j ≤ 1000 → (f j).size ≤ 1099511627776 from fun j hj => by
    rw [← hf, tix_size key dH (j : Int) (by omega)]
    decide)
  have HKZ := Lib.hid hk
  clear hn hk0 hr2 hw2 hf hk
  go_enter Tryd.func7, Tryd.ntmps7
  go_upto_region 2 with (go_at_call 9; (with_reducible refine (thead_ok _ HG.out).mono ?_); rintro e u1 ⟨rfl, hb⟩; have HB1 := Lib.hid hb; clear hb)
  go_upto_region 3 with (go_at_call 10; (with_reducible refine (z_new HB1.out key HKZ.out).mono ?_); rintro e u2 ⟨H2, tb, rfl, h1, h2, h3⟩; have HZ2 := Lib.hid h1; clear h1 h2 h3)
  by_cases hgt : key.size > 3000
  · have hg2 : (key.size : Int) > 3000 := by omega
    have hg3 : decide ((3000 : Int) < (key.size : Int)) = true := decide_eq_true (by omega)
    go_wp2
    go_ret
    exact ⟨rfl, HZ2.out.l⟩
  · have hg2 : ¬ (key.size : Int) > 3000 := by omega
    have hg3 : decide ((3000 : Int) < (key.size : Int)) = false := decide_eq_false (by omega)
    have HK3 := Lib.hid (show key.size ≤ 3000 by omega)
    clear hgt
    go_upto_region 6 with fail
    try rw [hr1]
    try rw [hw1]
    clear hr1 hw1
    go_wp2_with fail
    go_loopw [10, 11] (fun v10 v11 wr => ∃ (i : Nat) (H : List Nat) (A : Option Addr) (c : Nat), i ≤ n ∧ v10 = .slice A i c ∧ v11 = .int .i64 (i : Int) ∧ Hid (Tz W wr H tb key ⟨(i : Int), vL annH f i⟩) ∧ Hid (Lrk 9 1 tsv W wr H A c (vT f i))) (fun v10 v11 _ => n - (intOf v11).toNat)
    case atStart => exact ⟨0, H2, none, 0, by omega, rfl, rfl, HZ2, Lib.hid (Lrk.nil _ _ _)⟩
    case round =>
      obtain ⟨i, H, A, c, hi, rfl, rfl, HZ, HX⟩ := hrel
      by_cases hi1 : i < n
      · have hi2 : (i : Int) < (n : Int) := by omega
        obtain ⟨T, hT⟩ : ∃ T, f ((i : Int) + 1) = T := ⟨_, rfl⟩
        have HI := Lib.hid (show issT ⟨(i : Int), vL annH f i⟩ (vP annH i) (tixT key dH) = (T, 0, ⟨((i + 1 : Nat) : Int), vL annH f (i + 1)⟩) by rw [HF.out, vL_iss i (by omega), hT])
        have HVT := Lib.hid (show vT f (i + 1) = vT f i ++ [T] by rw [vT_succ, hT])
        have HGK := Lib.hid (show Gk ⟨(i : Int), vL annH f i⟩ from vL_gk i (by omega) _ (by omega))
        clear hT
        go_upto_region 11 with (go_at_call 18; (with_reducible refine (z_issue HZ.out HGK.out (vP annH i) dH T 0 _ HI.out HK3.out (by decide) (by show (i : Int) ≤ _; omega) (by show (⟨#[]⟩ : ByteArray).size ≤ _; decide) (by show annH.size ≤ _; decide) HG.out).mono ?_); rintro e u3 ⟨H3, rfl, h1, h2⟩; have HZ3 := Lib.hid h1; have HX3 := Lib.hid (HX.out.step h2); clear h1 h2)
        have HMI := Lib.hid (vT_len (f := f) i)
        have HOA := Lib.hid (HX3.out.o.on ((Below.refl u3.heap.size u3).alloc (Nat.le_refl _) (.cells #[.string T] 9)))
        have HRX := Lib.hid (Rw.bk (f := tsv) (k := 1) (x := T) (Bk.new u3 9 #[.string T]))
        have HSA := Lib.hid (show W.heap.size ≤ (u3.alloc (.cells #[.string T] 9)).heap.size by have := HZ3.out.l.size; rw [World.size_alloc]; omega)
        go_wp2_with (at_builtin; refine wp_rows_at roTS rfl (.tmp 54) (.tmp 56) rfl i rfl HMI.out HOA.out T u3.heap.size 1 rfl HRX.out (by omega) HSA.out (i + 1) rfl ?_; intro g9 c9 w9 ho hg hb hat; have HY := Lib.hid (HX3.out.app HZ3.out.hi HMI.out ho hg hat); clear ho hg hb hat)
        go_roundw
        case rel =>
          refine ⟨i + 1, H3, some ⟨g9, 0, none⟩, c9, by omega, rfl, by go_num, Lib.hid (HY.out.2.tz HZ3.out (fun y hy => hy)), Lib.hid ?_⟩
          rw [HVT.out]
          exact HY.out.1
        case measure => simp [intOf]; omega
      · have hi2 : ¬ (i : Int) < (n : Int) := by omega
        have hin : i = n := by omega
        subst hin
        clear hi1 hi
        have hr2 := HR2.out
        have hw2 := HW2.out
        have HGK := Lib.hid (show Gk ⟨(i : Int), vL annH f i⟩ from vL_gk i (by omega) _ (by omega))
        by_cases hkn : k < i
        · have hkn2 : (k : Int) < (i : Int) := by omega
          have hkn3 : decide ((k : Int) < (i : Int)) = true := decide_eq_true (by omega)
          have HV1 := Lib.hid (show voiT ⟨(i : Int), vL annH f i⟩ (k : Int) = (true, ⟨(i : Int), vK annH f i k⟩) by rw [vK_voi, decide_eq_true hkn])
          have HV2 := Lib.hid (vK_none (a := annH) (f := f) i k (by omega))
          have HLN := Lib.hid (show (vK annH f i k).length = i - 1 by rw [vK_len, if_pos hkn])
          have HGK1 := Lib.hid (vK_gk (a := annH) (f := f) i k (by omega))
          have HMEM := Lib.hid (vK_mem (a := annH) (f := f) i k (by omega))
          have HALL := Lib.hid (vK_all (a := annH) (f := f) i k)
          obtain ⟨L1, hL1⟩ : ∃ L1, vK annH f i k = L1 := ⟨_, rfl⟩
          rw [hL1] at HV1 HV2 HLN HGK1 HMEM HALL
          clear hL1
          go_upto_region 15 with fail
          try rw [hr2]
          try rw [hw2]
          clear hr2 hw2
          go_upto_region 16 with (go_at_call 16; (with_reducible refine (z_void HZ.out HGK.out (k : Int) true _ HV1.out).mono ?_); rintro e u4 ⟨H4, rfl, h1, h2⟩; have HZ4 := Lib.hid h1; have HX4 := Lib.hid (HX.out.step h2); clear h1 h2)
          go_upto_region 17 with (go_at_call 16; (with_reducible refine (z_void HZ4.out HGK1.out (k : Int) false _ HV2.out).mono ?_); rintro e u5 ⟨H5, rfl, h1, h2⟩; have HZ5 := Lib.hid h1; have HX5 := Lib.hid (HX4.out.step h2); clear h1 h2)
          go_wp2_with fail
          go_loopw [17, 18] (fun v17 v18 wr => ∃ (j g : Nat) (H : List Nat), j ≤ i ∧ v17 = .int .i64 (g : Int) ∧ v18 = .int .i64 (j : Int) ∧ Hid (Tz W wr H tb key ⟨(i : Int), shT L1 ((vT f i).take j)⟩) ∧ Hid (g + (shT L1 ((vT f i).take j)).length = L1.length) ∧ Hid (Lrk 9 1 tsv W wr H A c (vT f i))) (fun v17 v18 _ => i - (intOf v18).toNat)
          case atStart => exact ⟨0, 0, H5, by omega, rfl, rfl, HZ5, Lib.hid (by show 0 + L1.length = L1.length; omega), HX5⟩
          case round =>
            obtain ⟨j, g, H6, hj, rfl, rfl, HZ6, HN6, HX6⟩ := hrel
            have hg20 : g ≤ 20 := by have h1 := HN6.out; have h2 := HLN.out; omega
            by_cases hj1 : j < i
            · have hj2 : (j : Int) < (i : Int) := by omega
              obtain ⟨b6, o6, s, rfl, hs, hc⟩ := Rw.at_ (show Rw 1 tsv wr A (vT f i) from Ow.rw_ (fun _ => rfl) HX6.out.o) j (show j < (vT f i).length by rw [vT_len]; exact hj1)
              have c6 : wr.cell? ⟨b6, o6 + j, none⟩ = some (.string s) := by have := hc wr (Below.refl _ _) 0 (by omega); simpa using this
              have HSS := Lib.hid (show s.size ≤ 1099511627776 from by
                obtain ⟨q, hq, rfl⟩ := List.mem_map.1 (List.mem_of_getElem? hs)
                exact HFS.out (q + 1) (by have := List.mem_range.1 hq; omega))
              have HTK := Lib.hid (show shT L1 ((vT f i).take (j + 1)) = (shT L1 ((vT f i).take j)).eraseP (texT s) by rw [List.take_add_one, hs]; exact sh_snoc s _ _)
              obtain ⟨L, hL⟩ : ∃ L, shT L1 ((vT f i).take j) = L := ⟨_, rfl⟩
              have HGL := Lib.hid (show Gk ⟨(i : Int), L⟩ by rw [← hL]; exact sh_gk _ HGK1.out)
              have HML := Lib.hid (show ∀ x ∈ L, x ∈ L1 from fun x hx => by rw [← hL] at hx; exact sh_mem hx)
              rw [hL] at HZ6 HN6 HTK
              clear hL hs hc
              rcases sh_red (n := (i : Int)) (L := L) (a := annH) (s := s) (fun x hx => (HMEM.out x (HML.out x hx)).2) with ⟨h1, h2⟩ | ⟨x, hx, h1, h2⟩
              · have HR := Lib.hid h1
                have HE := Lib.hid h2
                clear h1 h2
                go_upto_region 24 with (go_at_call 13; (with_reducible refine (z_redeem HZ6.out HGL.out s annH zeroPs 151 _ HR.out HSS.out).mono ?_); rintro e u7 ⟨H7, rfl, h1, h2⟩; have HZ7 := Lib.hid h1; have HX7 := Lib.hid (HX6.out.step h2); clear h1 h2 c6)
                try simp only [zeroPs]
                have HZ8 := Lib.hid (HZ7.out.on ((Below.refl u7.heap.size u7).alloc (Nat.le_refl _) (.cells #[.int .i64 0, .string ⟨#[]⟩, .string ⟨#[]⟩, .int .i64 0] 31)))
                have HX8 := Lib.hid (HX7.out.on ((Below.refl u7.heap.size u7).alloc (Nat.le_refl _) (.cells #[.int .i64 0, .string ⟨#[]⟩, .string ⟨#[]⟩, .int .i64 0] 31)))
                go_wp2_with fail
                go_roundw
                case rel => exact ⟨j + 1, g, H7, by omega, rfl, by go_num, Lib.hid (by rw [HTK.out, HE.out]; exact HZ8.out), Lib.hid (by rw [HTK.out, HE.out]; exact HN6.out), HX8⟩
                case measure => simp [intOf]; omega
              · have HR := Lib.hid h1
                have HE := Lib.hid h2
                have hxk : ¬ (x.p.vis = (k : Int)) := (HMEM.out x (HML.out x hx)).1
                obtain ⟨xt, ⟨xv, xn, xa, xe⟩⟩ := x
                dsimp only at HR hxk
                have hxb : (xv == (k : Int)) = false := by simpa using hxk
                clear h1 h2 hx
                go_upto_region 24 with (go_at_call 13; (with_reducible refine (z_redeem HZ6.out HGL.out s annH _ 0 _ HR.out HSS.out).mono ?_); rintro e u7 ⟨H7, rfl, h1, h2⟩; have HZ7 := Lib.hid h1; have HX7 := Lib.hid (HX6.out.step h2); clear h1 h2 c6)
                obtain ⟨u8, hu8⟩ : ∃ u8, u7.alloc (.cells #[.int .i64 xv, .string xn, .string xa, .int .i64 xe] 31) = u8 := ⟨_, rfl⟩
                obtain ⟨gx, hgx⟩ : ∃ gx, u7.heap.size = gx := ⟨_, rfl⟩
                have hb8 : Below u7.heap.size u7 u8 := by rw [← hu8]; exact (Below.refl _ _).alloc (Nat.le_refl _) _
                have HZ8 := Lib.hid (HZ7.out.on hb8)
                have HX8 := Lib.hid (HX7.out.on hb8)
                have d0 : u8.cell? ⟨gx, 0, none⟩ = some (.int .i64 xv) := by rw [← hu8, ← hgx]; exact (Bk.new u7 31 #[.int .i64 xv, .string xn, .string xa, .int .i64 xe]).cell 0
                try rw [hu8]
                try rw [hgx]
                clear hu8 hgx hb8
                have hwg : IntKind.i64.wrap ((g : Int) + 1) = ((g + 1 : Nat) : Int) := (iwrap _ (g + 1) (by omega) (by omega)).1
                go_wp2_with fail
                go_roundw
                case rel => exact ⟨j + 1, g + 1, H7, by omega, by go_num, by go_num, Lib.hid (by rw [HTK.out]; exact HZ8.out), Lib.hid (by rw [HTK.out]; have h1 := HE.out; have h2 := HN6.out; omega), HX8⟩
                case measure => simp [intOf]; omega
            · have hj2 : ¬ (j : Int) < (i : Int) := by omega
              have HEND := Lib.hid (show shT L1 ((vT f i).take j) = [] by rw [List.take_of_length_le (by rw [vT_len]; omega)]; exact HALL.out)
              rw [HEND.out] at HZ6 HN6
              have hgl : g = i - 1 := by have h1 := HN6.out; have h2 := HLN.out; simp at h1; omega
              subst hgl
              have hws : IntKind.i64.wrap ((i : Int) - 1) = ((i - 1 : Nat) : Int) := (iwrap _ (i - 1) (by omega) (by omega)).1
              obtain ⟨i1, hi1⟩ : ∃ i1, i - 1 = i1 := ⟨_, rfl⟩
              rw [hi1] at hws ⊢
              go_wp2_with (go_at_call 20; (with_reducible refine (z_many HZ6.out 0 rfl).mono ?_); rintro e u9 ⟨rfl, h1⟩; have HZ9 := Lib.hid (HZ6.out.on h1); clear h1)
              go_ret
              exact ⟨rfl, HZ9.out.l⟩
        · have hkn2 : ¬ (k : Int) < (i : Int) := by omega
          have hkn3 : decide ((k : Int) < (i : Int)) = false := decide_eq_false (by omega)
          have HV1 := Lib.hid (show voiT ⟨(i : Int), vL annH f i⟩ (k : Int) = (false, ⟨(i : Int), vK annH f i k⟩) by rw [vK_voi, decide_eq_false hkn])
          have HV2 := Lib.hid (vK_none (a := annH) (f := f) i k (by omega))
          have HLN := Lib.hid (show (vK annH f i k).length = i by rw [vK_len, if_neg hkn])
          have HGK1 := Lib.hid (vK_gk (a := annH) (f := f) i k (by omega))
          have HMEM := Lib.hid (vK_mem (a := annH) (f := f) i k (by omega))
          have HALL := Lib.hid (vK_all (a := annH) (f := f) i k)
          obtain ⟨L1, hL1⟩ : ∃ L1, vK annH f i k = L1 := ⟨_, rfl⟩
          rw [hL1] at HV1 HV2 HLN HGK1 HMEM HALL
          clear hL1
          go_upto_region 15 with fail
          try rw [hr2]
          try rw [hw2]
          clear hr2 hw2
          go_upto_region 16 with (go_at_call 16; (with_reducible refine (z_void HZ.out HGK.out (k : Int) false _ HV1.out).mono ?_); rintro e u4 ⟨H4, rfl, h1, h2⟩; have HZ4 := Lib.hid h1; have HX4 := Lib.hid (HX.out.step h2); clear h1 h2)
          go_upto_region 17 with (go_at_call 16; (with_reducible refine (z_void HZ4.out HGK1.out (k : Int) false _ HV2.out).mono ?_); rintro e u5 ⟨H5, rfl, h1, h2⟩; have HZ5 := Lib.hid h1; have HX5 := Lib.hid (HX4.out.step h2); clear h1 h2)
          go_wp2_with fail
          go_loopw [17, 18] (fun v17 v18 wr => ∃ (j g : Nat) (H : List Nat), j ≤ i ∧ v17 = .int .i64 (g : Int) ∧ v18 = .int .i64 (j : Int) ∧ Hid (Tz W wr H tb key ⟨(i : Int), shT L1 ((vT f i).take j)⟩) ∧ Hid (g + (shT L1 ((vT f i).take j)).length = L1.length) ∧ Hid (Lrk 9 1 tsv W wr H A c (vT f i))) (fun v17 v18 _ => i - (intOf v18).toNat)
          case atStart => exact ⟨0, 0, H5, by omega, rfl, rfl, HZ5, Lib.hid (by show 0 + L1.length = L1.length; omega), HX5⟩
          case round =>
            obtain ⟨j, g, H6, hj, rfl, rfl, HZ6, HN6, HX6⟩ := hrel
            have hg20 : g ≤ 20 := by have h1 := HN6.out; have h2 := HLN.out; omega
            by_cases hj1 : j < i
            · have hj2 : (j : Int) < (i : Int) := by omega
              obtain ⟨b6, o6, s, rfl, hs, hc⟩ := Rw.at_ (show Rw 1 tsv wr A (vT f i) from Ow.rw_ (fun _ => rfl) HX6.out.o) j (show j < (vT f i).length by rw [vT_len]; exact hj1)
              have c6 : wr.cell? ⟨b6, o6 + j, none⟩ = some (.string s) := by have := hc wr (Below.refl _ _) 0 (by omega); simpa using this
              have HSS := Lib.hid (show s.size ≤ 1099511627776 from by
                obtain ⟨q, hq, rfl⟩ := List.mem_map.1 (List.mem_of_getElem? hs)
                exact HFS.out (q + 1) (by have := List.mem_range.1 hq; omega))
              have HTK := Lib.hid (show shT L1 ((vT f i).take (j + 1)) = (shT L1 ((vT f i).take j)).eraseP (texT s) by rw [List.take_add_one, hs]; exact sh_snoc s _ _)
              obtain ⟨L, hL⟩ : ∃ L, shT L1 ((vT f i).take j) = L := ⟨_, rfl⟩
              have HGL := Lib.hid (show Gk ⟨(i : Int), L⟩ by rw [← hL]; exact sh_gk _ HGK1.out)
              have HML := Lib.hid (show ∀ x ∈ L, x ∈ L1 from fun x hx => by rw [← hL] at hx; exact sh_mem hx)
              rw [hL] at HZ6 HN6 HTK
              clear hL hs hc
              rcases sh_red (n := (i : Int)) (L := L) (a := annH) (s := s) (fun x hx => (HMEM.out x (HML.out x hx)).2) with ⟨h1, h2⟩ | ⟨x, hx, h1, h2⟩
              · have HR := Lib.hid h1
                have HE := Lib.hid h2
                clear h1 h2
                go_upto_region 24 with (go_at_call 13; (with_reducible refine (z_redeem HZ6.out HGL.out s annH zeroPs 151 _ HR.out HSS.out).mono ?_); rintro e u7 ⟨H7, rfl, h1, h2⟩; have HZ7 := Lib.hid h1; have HX7 := Lib.hid (HX6.out.step h2); clear h1 h2 c6)
                try simp only [zeroPs]
                have HZ8 := Lib.hid (HZ7.out.on ((Below.refl u7.heap.size u7).alloc (Nat.le_refl _) (.cells #[.int .i64 0, .string ⟨#[]⟩, .string ⟨#[]⟩, .int .i64 0] 31)))
                have HX8 := Lib.hid (HX7.out.on ((Below.refl u7.heap.size u7).alloc (Nat.le_refl _) (.cells #[.int .i64 0, .string ⟨#[]⟩, .string ⟨#[]⟩, .int .i64 0] 31)))
                go_wp2_with fail
                go_roundw
                case rel => exact ⟨j + 1, g, H7, by omega, rfl, by go_num, Lib.hid (by rw [HTK.out, HE.out]; exact HZ8.out), Lib.hid (by rw [HTK.out, HE.out]; exact HN6.out), HX8⟩
                case measure => simp [intOf]; omega
              · have HR := Lib.hid h1
                have HE := Lib.hid h2
                have hxk : ¬ (x.p.vis = (k : Int)) := (HMEM.out x (HML.out x hx)).1
                obtain ⟨xt, ⟨xv, xn, xa, xe⟩⟩ := x
                dsimp only at HR hxk
                have hxb : (xv == (k : Int)) = false := by simpa using hxk
                clear h1 h2 hx
                go_upto_region 24 with (go_at_call 13; (with_reducible refine (z_redeem HZ6.out HGL.out s annH _ 0 _ HR.out HSS.out).mono ?_); rintro e u7 ⟨H7, rfl, h1, h2⟩; have HZ7 := Lib.hid h1; have HX7 := Lib.hid (HX6.out.step h2); clear h1 h2 c6)
                obtain ⟨u8, hu8⟩ : ∃ u8, u7.alloc (.cells #[.int .i64 xv, .string xn, .string xa, .int .i64 xe] 31) = u8 := ⟨_, rfl⟩
                obtain ⟨gx, hgx⟩ : ∃ gx, u7.heap.size = gx := ⟨_, rfl⟩
                have hb8 : Below u7.heap.size u7 u8 := by rw [← hu8]; exact (Below.refl _ _).alloc (Nat.le_refl _) _
                have HZ8 := Lib.hid (HZ7.out.on hb8)
                have HX8 := Lib.hid (HX7.out.on hb8)
                have d0 : u8.cell? ⟨gx, 0, none⟩ = some (.int .i64 xv) := by rw [← hu8, ← hgx]; exact (Bk.new u7 31 #[.int .i64 xv, .string xn, .string xa, .int .i64 xe]).cell 0
                try rw [hu8]
                try rw [hgx]
                clear hu8 hgx hb8
                have hwg : IntKind.i64.wrap ((g : Int) + 1) = ((g + 1 : Nat) : Int) := (iwrap _ (g + 1) (by omega) (by omega)).1
                go_wp2_with fail
                go_roundw
                case rel => exact ⟨j + 1, g + 1, H7, by omega, by go_num, by go_num, Lib.hid (by rw [HTK.out]; exact HZ8.out), Lib.hid (by rw [HTK.out]; have h1 := HE.out; have h2 := HN6.out; omega), HX8⟩
                case measure => simp [intOf]; omega
            · have hj2 : ¬ (j : Int) < (i : Int) := by omega
              have HEND := Lib.hid (show shT L1 ((vT f i).take j) = [] by rw [List.take_of_length_le (by rw [vT_len]; omega)]; exact HALL.out)
              rw [HEND.out] at HZ6 HN6
              have hgl : g = i := by have h1 := HN6.out; have h2 := HLN.out; simp at h1; omega
              subst hgl
              go_wp2_with (go_at_call 20; (with_reducible refine (z_many HZ6.out 0 rfl).mono ?_); rintro e u9 ⟨rfl, h1⟩; have HZ9 := Lib.hid (HZ6.out.on h1); clear h1)
              go_ret
              exact ⟨rfl, HZ9.out.l⟩
end Go.Proofs.YtinbegnojfpeiaaDoor
