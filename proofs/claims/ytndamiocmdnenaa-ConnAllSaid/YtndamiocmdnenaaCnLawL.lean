/- ConnAll: all connections are those that were opened, and not closed: the walk. (Written by gen_cnall.py.) -/
import Derived.Test.YtndamiocmdnenaaCnAll
import Derived.Test.YtndamiocmdnenaaOpen
import Derived.Test.YtndamiocmdnenaaMinY
import Derived.Test.YtndamiocmdnenaaLits
namespace Go.Proofs.Ytndamiocmdnenaa
set_option linter.unusedVariables false
set_option maxRecDepth 100000
set_option linter.unusedSimpArgs false
open Go.RowKit
theorem InN.at2 {k : IntKind} {W : World} {A : Option Addr} {l : List Int} {n c : Nat} (h : InN k W A l n c) (i : Nat) (hi : i < n) : ∃ b o, A = some ⟨b, o, none⟩ ∧ ∀ u, Below W.heap.size W u → u.cell? ⟨b, o + i, none⟩ = some (.int k (l.getD i 0)) := by
  rcases h.at_ with h0 | ⟨b, o, e, hb, hc⟩
  · omega
  · refine ⟨b, o, e, fun u hu => ?_⟩
    have hi' : i < l.length := by rw [h.len]; exact hi
    rw [List.getD_eq_getElem?_getD, List.getElem?_eq_getElem hi']
    exact (hu.cell (p := ⟨b, o + i, none⟩) hb).trans (hc i hi')
theorem InB.at2 {W : World} {A : Option Addr} {l : List UInt8} {n c : Nat} (h : InB W A l n c) (i : Nat) (hi : i < n) : ∃ b o x, A = some ⟨b, o, none⟩ ∧ l[i]? = some x ∧ ∀ u, Below W.heap.size W u → u.cell? ⟨b, o + i, none⟩ = some (.int .u8 (x.toNat : Int)) := by
  have hi' : i < l.length := by rw [h.len]; exact hi
  rcases h.rb with h0 | ⟨b, o, e, hb, hc⟩
  · rw [h0] at hi'; simp at hi'
  · exact ⟨b, o, l[i], e, List.getElem?_eq_getElem hi', fun u hu => (hu.cell (p := ⟨b, o + i, none⟩) hb).trans (hc i hi')⟩

set_option maxRecDepth 100000 in
set_option maxHeartbeats 16000000 in
theorem walk_ConnAll (A : Option Addr) (l : List Int) (n c : Nat) (A' : Option Addr) (l' : List UInt8) (n' c' : Nat) (W : World) (h : InN .u32 W A l n c) (h' : InB W A' l' n' c') :
    Calls Try.prog 9 #[.slice A n c, .slice A' n' c'] W fun e w' => e = .returned (.bool true) ∧ Below W.heap.size W w' := by
  have HI := Lib.hid h
  have HB := Lib.hid h'
  have hcp : n ≤ c := h.cap
  have hcp' : n' ≤ c' := h'.cap
  have hmx : n ≤ 9223372036854775807 := by have h1 := h.cap; have h2 := h.max; unfold maxLen at h2; omega
  have hmx' : n' ≤ 9223372036854775807 := by have h1 := h'.cap; have h2 := h'.max; unfold maxLen at h2; omega
  have HL := Lib.hid h.len
  clear h h'
  go_enter Try.func9, Try.ntmps9
  go_upto_region 2 with (go_at_call 10; (with_reducible refine (cnhead_ok _).mono ?_); rintro e u1 ⟨rfl, hb⟩; have HB1 := Lib.hid hb; clear hb)
  go_upto_region 3 with (go_at_call 11; (with_reducible refine (c_new HB1.out).mono ?_); rintro e u2 ⟨G2, tb, rfl, h1, h2, h3⟩; have HZ2 := Lib.hid h1; clear h1 h2 h3)
  by_cases g0 : 60 < n
  · have g1 : (60 : Int) < (n : Int) := by omega
    go_wp2_with fail
    go_ret
    exact ⟨rfl, HZ2.out.l⟩
  by_cases g2 : 60 < n'
  · have g1 : ¬ (60 : Int) < (n : Int) := by omega
    have g3 : (60 : Int) < (n' : Int) := by omega
    go_wp2_with fail
    go_ret
    exact ⟨rfl, HZ2.out.l⟩
  have g1 : ¬ (60 : Int) < (n : Int) := by omega
  have g3 : ¬ (60 : Int) < (n' : Int) := by omega
  have HN6 := Lib.hid (show n ≤ 60 ∧ n' ≤ 60 by omega)
  clear g0 g2
  go_wp2_with fail
  clear g1 g3
  go_loopw [7] (fun v7 wr => ∃ (i : Nat) (G : List Nat), i ≤ n ∧ v7 = .int .i64 (i : Int) ∧ Hid (Zc W wr G tb (tG l [] i))) (fun v7 _ => n - (intOf v7).toNat)
  case atStart => exact ⟨0, G2, by omega, rfl, HZ2⟩
  case round =>
    obtain ⟨i, G, hi, rfl, HZ⟩ := hrel
    by_cases hi1 : i < n
    · have hi2 : (i : Int) < (n : Int) := by omega
      obtain ⟨b, o, rfl, hc⟩ := HI.out.at2 i hi1
      obtain ⟨x, hx⟩ : ∃ x, l.getD i 0 = x := ⟨_, rfl⟩
      have x0 := hc wr HZ.out.l
      rw [hx] at x0
      have hw1 := (iwrap ((i : Int) + 1) (i + 1) (by have := HN6.out; omega) (by have := HN6.out; omega)).1
      have hnn : ((((i + 1 : Nat) : Int)) != ((i + 1 : Nat) : Int)) = false := by simp
      have HOP := tG_open l i (by have := HN6.out.1; omega) (by rw [HL.out]; exact hi1)
      rw [hx] at HOP
      have HOP := Lib.hid HOP
      have HLA := Lib.hid (show (tG l [] i).la ≤ 1000000 from (by show i ≤ 1000000; have := HN6.out; omega))
      have HGC := Lib.hid (gc_tG l [] i (by have := HN6.out; omega))
      clear hc hx
      go_wp2_with (go_at_call 14; (with_reducible refine (c_open HZ.out HGC.out HLA.out x ((i + 1 : Nat) : Int) 0 (tG l [] (i + 1)) HOP.out).mono ?_); rintro e w3 ⟨G3, rfl, h1, -⟩; have HZ3 := Lib.hid h1; clear h1)
      go_roundw
      case rel => exact ⟨i + 1, G3, by omega, by go_num, HZ3⟩
      case measure => simp [intOf] <;> omega
    · have hi2 : ¬ (i : Int) < (n : Int) := by omega
      obtain rfl : n = i := by omega
      obtain ⟨k1, hk1⟩ : ∃ k1, n + 1 = k1 := ⟨_, rfl⟩
      have hw1 := (iwrap ((n : Int) + 1) k1 (by have := HN6.out; omega) (by have := HN6.out; omega)).1
      have hmk := fun w => mk_bools w k1 (by have := HN6.out; omega) .i64 .i64
      obtain ⟨gb, hgb⟩ : ∃ gb, wr.heap.size = gb := ⟨_, rfl⟩
      obtain ⟨v1, hv1⟩ : ∃ v1, wr.alloc (.cells (bcl (List.replicate k1 false)) 4) = v1 := ⟨_, rfl⟩
      have hb1 : Below wr.heap.size wr v1 := by rw [← hv1]; exact (Below.refl _ _).alloc (Nat.le_refl _) _
      have HZ1 := Lib.hid (show Zc W v1 G tb (tG l (List.replicate k1 false) n) by rw [tG_none]; exact HZ.out.on hb1)
      have HG1 := Lib.hid (show Bz v1 G gb 4 (bcl (List.replicate k1 false)) by rw [← hv1, ← hgb]; exact Bz.new HZ.out.hi _ _)
      have HGW := Lib.hid (show W.heap.size ≤ gb by rw [← hgb]; exact HZ.out.l.size)
      have HK1 := Lib.hid hk1
      clear hb1 hi hi1
      go_upto_region 12 with fail
      try rw [hv1]
      try rw [hgb]
      clear hv1 hgb hmk
      go_wp2_with fail
      go_loopw [11] (fun v11 wr => ∃ (j : Nat) (g : List Bool), j ≤ n' ∧ v11 = .int .i64 (j : Int) ∧ Hid (g.length = n + 1) ∧ Hid (Zc W wr G tb (tG l g n)) ∧ Hid (Bz wr G gb 4 (bcl g))) (fun v11 _ => n' - (intOf v11).toNat)
      case atStart => exact ⟨0, _, by omega, rfl, Lib.hid (by rw [List.length_replicate]; exact HK1.out.symm), HZ1, HG1⟩
      case round =>
        obtain ⟨j, g, hj, rfl, HGL, HZ, HGB⟩ := hrel
        by_cases hj1 : j < n'
        · have hj2 : (j : Int) < (n' : Int) := by omega
          obtain ⟨b, o, x, rfl, -, hc⟩ := HB.out.at2 j hj1
          have x0 := hc wr HZ.out.l
          have hx8 : x.toNat < 256 := x.toNat_lt
          obtain ⟨X, hX⟩ : ∃ X, x.toNat = X := ⟨_, rfl⟩
          rw [hX] at x0 hx8
          obtain ⟨id, hid⟩ : ∃ id, X % k1 = id := ⟨_, rfl⟩
          have hidk : id < k1 := by rw [← hid]; exact Nat.mod_lt _ (by have := HK1.out; omega)
          have hr1 : Int.tmod (X : Int) (k1 : Int) = (id : Int) := by rw [Int.tmod_eq_emod_of_nonneg (by omega), ← hid]; rfl
          have hw2 : IntKind.i64.wrap (X : Int) = (X : Int) := by rw [IntKind.wrap_i64]; omega
          have hw3 : IntKind.i64.wrap (id : Int) = (id : Int) := by rw [IntKind.wrap_i64]; have := HK1.out; have := HN6.out; omega
          have hk0 : ((k1 : Int) == 0) = false := by rw [beq_eq_false_iff_ne]; have := HK1.out; omega
          have hk2 : ¬ k1 = 0 := by have := HK1.out; omega
          obtain ⟨r, hr⟩ : ∃ r, (decide (0 < id) && !(g.getD id false)) = r := ⟨_, rfl⟩
          have HCL := tG_close l g n id HGL.out (by have := HK1.out; omega)
          rw [hr] at HCL
          have HCL := Lib.hid HCL
          have HID := Lib.hid (show id ≤ n ∧ id < g.length by have h1 := HK1.out; have h2 := HGL.out; omega)
          have HWF := Lib.hid (show WfN (id : Int) from wfN_of (by omega) (by have := HID.out; have := HN6.out; omega))
          have HG60 := Lib.hid (gc_tG l g n HN6.out.1)
          clear hX hid hc
          go_upto_region 17 with (go_at_call 16; (with_reducible refine (c_close HZ.out HG60.out (id : Int) r (tG l (g.set id true) n) HCL.out HWF.out).mono ?_); rintro e w3 ⟨rfl, h1, h2⟩; have HZ3 := Lib.hid h1; have HG3 := Lib.hid (HGB.out.step h2); clear h1 h2)
          have y0 : w3.cell? ⟨gb, id, none⟩ = some (.bool (g.getD id false)) := by rw [HG3.out.b.cell, bcl_at HID.out.2]
          have f0 := HG3.out.b.frozen id
          obtain ⟨b0, hb0⟩ : ∃ b0, g.getD id false = b0 := ⟨_, rfl⟩
          rw [hb0] at y0 hr
          have hik : (id : Int) < (k1 : Int) := by omega
          obtain ⟨v4, hv4⟩ : ∃ v4, w3.setCell ⟨gb, id, none⟩ (.bool true) = v4 := ⟨_, rfl⟩
          have kk : Ke [gb] w3 v4 := by rw [← hv4]; exact (Ke.refl [gb] w3).set (p := ⟨gb, id, none⟩) (by simp) _
          have HZ4 := Lib.hid (show Zc W v4 G tb (tG l (g.set id true) n) from HZ3.out.ke kk (fun y hy hx => HG3.out.n (by rw [← List.mem_singleton.1 hx]; exact hy)) (HZ3.out.l.trans (kk.below HZ3.out.l.size (fun x hx => by rw [List.mem_singleton.1 hx]; exact HGW.out))))
          have HG4 := Lib.hid (show Bz v4 G gb 4 (bcl (g.set id true)) from ⟨by rw [← hv4, ← bcl_set]; exact HG3.out.b.set id _, HG3.out.n⟩)
          have HGL4 := Lib.hid (show (g.set id true).length = n + 1 by rw [List.length_set]; exact HGL.out)
          clear hr1 hw2 hw3 hk0 hk2 hb0 kk
          by_cases hi0 : id = 0
          · subst hi0
            have hr0 : r = false := by rw [← hr]; rfl
            subst hr0
            clear hr
            go_wp2_with fail
            try rw [hv4]
            go_roundw
            case rel => exact ⟨j + 1, _, by omega, by go_num, HGL4, by first | exact HZ4 | (rw [hv4]; exact HZ4), by first | exact HG4 | (rw [hv4]; exact HG4)⟩
            case measure => simp [intOf] <;> omega
          · have hi3 : (0 : Int) < (id : Int) := by omega
            have hi4 : 0 < id := by omega
            have hi5 : decide (0 < id) = true := decide_eq_true hi4
            rw [hi5] at hr
            cases b0 with
            | true =>
              have hr0 : r = false := hr.symm
              subst hr0
              clear hr
              go_wp2_with fail
              try rw [hv4]
              go_roundw
              case rel => exact ⟨j + 1, _, by omega, by go_num, HGL4, by first | exact HZ4 | (rw [hv4]; exact HZ4), by first | exact HG4 | (rw [hv4]; exact HG4)⟩
              case measure => simp [intOf] <;> omega
            | false =>
              have hr0 : r = true := hr.symm
              subst hr0
              clear hr
              go_wp2_with fail
              try rw [hv4]
              go_roundw
              case rel => exact ⟨j + 1, _, by omega, by go_num, HGL4, by first | exact HZ4 | (rw [hv4]; exact HZ4), by first | exact HG4 | (rw [hv4]; exact HG4)⟩
              case measure => simp [intOf] <;> omega
        · have hj2 : ¬ (j : Int) < (n' : Int) := by omega
          clear hj hj1
          go_wp2_with fail
          clear hj2
          go_loopw [14, 15] (fun v14 v15 wr => ∃ (e m : Nat) (A5 : Option Addr) (c5 : Nat), e ≤ n ∧ v15 = .int .i64 ((e : Int) + 1) ∧ v14 = .slice A5 m c5 ∧ Hid (((lG g e).map (fun j => ((j + 1 : Nat) : Int))).length = m ∧ m ≤ e) ∧ Hid (Jx W wr G A5 c5 ((lG g e).map (fun j => ((j + 1 : Nat) : Int)))) ∧ Hid (Zc W wr G tb (tG l g n)) ∧ Hid (Bz wr G gb 4 (bcl g))) (fun _ v15 _ => n + 1 - (intOf v15).toNat)
          case atStart => exact ⟨0, 0, none, 0, by omega, by first | rfl | go_num, rfl, Lib.hid ⟨rfl, Nat.le_refl _⟩, Lib.hid (Jx.nil _ _ _), HZ, HGB⟩
          case round =>
            obtain ⟨i, m, A5, c5, hi, rfl, rfl, HM, HJ, HZ, HGB⟩ := hrel
            by_cases hi1 : i < n
            · have hi2 : (i : Int) + 1 ≤ (n : Int) := by omega
              have hp0 : (0 : Int) ≤ (i : Int) + 1 := by omega
              have hp1 : ((i : Int) + 1).toNat = i + 1 := by omega
              have hp2 : i + 1 < k1 := by have := HK1.out; omega
              have hp3 : (i : Int) + 1 < (k1 : Int) := by omega
              have hwi := (iwrap ((i : Int) + 1 + 1) (i + 2) (by omega) (by have := HN6.out; omega)).1
              obtain ⟨bl, hbl⟩ : ∃ bl, g.getD (i + 1) false = bl := ⟨_, rfl⟩
              have HBL := Lib.hid hbl
              have y0 : wr.cell? ⟨gb, i + 1, none⟩ = some (.bool bl) := by rw [HGB.out.b.cell, bcl_at (by have h1 := HGL.out; omega), hbl]
              clear hbl
              cases bl with
              | true =>
                go_wp2_with fail
                go_roundw
                case rel => exact ⟨i + 1, m, A5, c5, by omega, by go_num, rfl, Lib.hid (by rw [lG_new, if_pos HBL.out, List.append_nil]; exact ⟨HM.out.1, by have := HM.out.2; omega⟩), Lib.hid (by rw [lG_new, if_pos HBL.out, List.append_nil]; exact HJ.out), HZ, HGB⟩
                case measure => simp [intOf] <;> omega
              | false =>
                obtain ⟨ab, hab⟩ : ∃ ab, wr.heap.size = ab := ⟨_, rfl⟩
                obtain ⟨v1, hv1⟩ : ∃ v1, wr.alloc (.cells #[.int .i64 ((i : Int) + 1)] 3) = v1 := ⟨_, rfl⟩
                have hb1 : Below wr.heap.size wr v1 := by rw [← hv1]; exact (Below.refl _ _).alloc (Nat.le_refl _) _
                have z0 : v1.cell? ⟨ab, 0, none⟩ = some (.int .i64 ((i : Int) + 1)) := by rw [← hv1, ← hab]; exact (Bk.new wr 3 #[.int .i64 ((i : Int) + 1)]).cell 0
                have HJ1 := Lib.hid (HJ.out.on hb1)
                have HZ1 := Lib.hid (HZ.out.on hb1)
                have HG1 := Lib.hid (HGB.out.on hb1)
                clear hb1
                obtain ⟨b, o, hA, hc⟩ := HI.out.at2 i hi1
                obtain ⟨x, hx⟩ : ∃ x, l.getD i 0 = x := ⟨_, rfl⟩
                have HX := Lib.hid (fun u (hu : Below W.heap.size W u) => show u.cell? ⟨b, o + i, none⟩ = some (.int .u32 x) by rw [← hx]; exact hc u hu)
                have HAD := Lib.hid (show adC (tG l g n) (((i + 1 : Nat)) : Int) = x by rw [tG_addr l g n i hi1 HBL.out]; exact hx)
                have HWF := Lib.hid (show WfN (((i + 1 : Nat)) : Int) from wfN_of (by omega) (by have := HN6.out; omega))
                subst hA
                clear hc hx
                go_upto_region 26 with (first | ((try rw [hv1]); (try rw [hab]); at_builtin; refine wp_jx rfl (.tmp 105) (.tmp 107) rfl m rfl HM.out.1 HJ1.out HZ1.out.hi ((i : Int) + 1) ab 1 rfl z0 HZ1.out.l.size (by have h1 := HM.out.2; have h2 := HN6.out; omega) (m + 1) rfl ?_; intro g6 c6 w6 HA6))
                have HZ6 := Lib.hid (HA6.out.z HZ1.out)
                have HG6 := Lib.hid (HA6.out.bz HG1.out (by decide))
                clear hv1 hab z0 y0
                have hwj := (iwrap ((i : Int) + 1 - 1) i (by omega) (by have := HN6.out; omega)).1
                have hwk := (iwrap (i : Int) i rfl (by have := HN6.out; omega)).1
                have hii : (i : Int) < (n : Int) := by omega
                have hxx : (x != x) = false := by simp
                try simp only [List.cons_append, List.nil_append]
                refine wp_region_held_drew (S := fun v => Below w6.heap.size w6 v) (by kernel_rfl) ((Below.refl _ _).drew) (fun hHeld => ?_)
                refine take_at (some 109) (i := 0) (v := ?_) rfl rfl (by kernel_rfl) (by kernel_rfl) (by kernel_rfl) (fun _ _ _ h => h) (Or.inl ⟨by kernel_rfl, ?_⟩) hHeld ?_
                rotate_left
                · intro wz hSw; go_simp; try (with_reducible rfl)
                try simp only [Act.put, List.setIfInBounds_toArray, List.set_cons_zero, List.set_cons_succ, List.getElem_toArray, List.getElem_cons_succ, List.getElem_cons_zero]
                refine take_at (some 110) (i := 1) (v := ?_) rfl rfl (by kernel_rfl) (by kernel_rfl) (by kernel_rfl) (fun _ _ _ h => h) (Or.inl ⟨by kernel_rfl, ?_⟩) hHeld ?_
                rotate_left
                · intro wz hSw; go_simp; try (with_reducible rfl)
                try simp only [Act.put, List.setIfInBounds_toArray, List.set_cons_zero, List.set_cons_succ, List.getElem_toArray, List.getElem_cons_succ, List.getElem_cons_zero]
                refine take_at (some 112) (i := 3) (v := ?_) rfl rfl (by kernel_rfl) (by kernel_rfl) (by kernel_rfl) (fun _ _ _ h => h) (Or.inl ⟨by kernel_rfl, ?_⟩) hHeld ?_
                rotate_left
                · intro wz hSw; go_simp; try (with_reducible rfl)
                try simp only [Act.put, List.setIfInBounds_toArray, List.set_cons_zero, List.set_cons_succ, List.getElem_toArray, List.getElem_cons_succ, List.getElem_cons_zero]
                refine take_at (some 113) (i := 4) (v := ?_) rfl rfl (by kernel_rfl) (by kernel_rfl) (by kernel_rfl) (fun _ _ _ h => h) (Or.inl ⟨by kernel_rfl, ?_⟩) hHeld ?_
                rotate_left
                · intro wz hSw; go_simp; try (with_reducible rfl)
                try simp only [Act.put, List.setIfInBounds_toArray, List.set_cons_zero, List.set_cons_succ, List.getElem_toArray, List.getElem_cons_succ, List.getElem_cons_zero]
                refine take_at (some 114) (i := 5) (v := ?_) rfl rfl (by kernel_rfl) (by kernel_rfl) (by kernel_rfl) (fun _ _ _ h => h) (Or.inl ⟨by kernel_rfl, ?_⟩) hHeld ?_
                rotate_left
                · intro wz hSw; go_simp; try (with_reducible rfl)
                try simp only [Act.put, List.setIfInBounds_toArray, List.set_cons_zero, List.set_cons_succ, List.getElem_toArray, List.getElem_cons_succ, List.getElem_cons_zero]
                refine take_at (some 115) (i := 6) (v := ?_) rfl rfl (by kernel_rfl) (by kernel_rfl) (by kernel_rfl) (fun _ _ _ h => h) (Or.inl ⟨by kernel_rfl, ?_⟩) hHeld ?_
                rotate_left
                · intro wz hSw; go_simp; try (with_reducible rfl)
                try simp only [Act.put, List.setIfInBounds_toArray, List.set_cons_zero, List.set_cons_succ, List.getElem_toArray, List.getElem_cons_succ, List.getElem_cons_zero]
                refine take_at (some 116) (i := 7) (v := ?_) rfl rfl (by kernel_rfl) (by kernel_rfl) (by kernel_rfl) (fun _ _ _ h => h) (Or.inl ⟨by kernel_rfl, ?_⟩) hHeld ?_
                rotate_left
                · intro wz hSw; have k0 := HX.out wz (HZ6.out.l.trans (hSw.mono HZ6.out.l.size)); go_simp; try (with_reducible rfl)
                try simp only [Act.put, List.setIfInBounds_toArray, List.set_cons_zero, List.set_cons_succ, List.getElem_toArray, List.getElem_cons_succ, List.getElem_cons_zero]
                refine wpAnyH_ready (rs := [2]) (by kernel_rfl) (by simp) (AllReadyH.cons rfl (fun K hK => ?_) AllReadyH.nil)
                rw [if_pos (by kernel_rfl)]
                go_simp
                refine (c_addr (HZ6.out.on hHeld) (((i + 1 : Nat)) : Int) x HAD.out HWF.out).mono ?_
                rintro e w7 ⟨rfl, h1⟩
                try dsimp only
                refine hK.out _ _ (hHeld.trans (h1.mono hHeld.size)) (fun hHeld => ?_)
                try simp only [Act.put, List.setIfInBounds_toArray, List.set_cons_zero, List.set_cons_succ, List.getElem_toArray, List.getElem_cons_succ, List.getElem_cons_zero]
                refine take_at (some 117) (i := 8) (v := ?_) rfl rfl (by kernel_rfl) (by kernel_rfl) (by kernel_rfl) (fun _ _ _ h => h) (Or.inl ⟨by kernel_rfl, ?_⟩) hHeld ?_
                rotate_left
                · intro wz hSw; go_simp; try (with_reducible rfl)
                try simp only [Act.put, List.setIfInBounds_toArray, List.set_cons_zero, List.set_cons_succ, List.getElem_toArray, List.getElem_cons_succ, List.getElem_cons_zero]
                refine wpAnyH_done (by kernel_rfl) ?_ _
                have HU := Lib.hid hHeld
                clear hHeld hwj hwk hii hxx
                go_wp2_with fail
                go_roundw
                case rel => exact ⟨i + 1, m + 1, some ⟨g6, 0, none⟩, c6, by omega, by go_num, rfl, Lib.hid (by rw [lG_new, if_neg (by rw [HBL.out]; simp), List.map_append, List.length_append, HM.out.1]; exact ⟨rfl, by have := HM.out.2; omega⟩), Lib.hid (by rw [lG_new, if_neg (by rw [HBL.out]; simp), List.map_append]; exact HA6.out.j.on HU.out), Lib.hid (HZ6.out.on HU.out), Lib.hid (HG6.out.on HU.out)⟩
                case measure => simp [intOf] <;> omega
            · obtain rfl : n = i := by omega
              have hi2 : ¬ (n : Int) + 1 ≤ (n : Int) := by omega
              have HG60 := Lib.hid (gc_tG l g n HN6.out.1)
              have HAL := tG_all l g n
              have HLN := Lib.hid (show (alC (tG l g n)).length = m by rw [HAL]; exact HM.out.1)
              have HAL := Lib.hid HAL
              clear hi hi1
              go_wp2_with (first
                | (go_at_call 13; (with_reducible refine (c_all HZ.out HG60.out m HLN.out).mono ?_); rintro e w4 ⟨A4, c4, rfl, h0, h1⟩; have HZ4 := Lib.hid (HZ.out.on h1); have HO4 := Lib.hid (h0.ri (K := G) (fun y hy => HZ.out.hi y hy)); have HJ4 := Lib.hid (HJ.out.on h1); clear h0 h1)
                | (go_at_call 33; (with_reducible refine (same_b A4 A5 c4 c5 (alC (tG l g n)) G G _ m HLN.out HO4.out (by rw [HAL.out]; exact HJ4.out.ri) (by have := HM.out.2; have := HN6.out.1; omega)).mono ?_); rintro e w5 ⟨rfl, h1⟩; have HZ5 := Lib.hid (HZ4.out.on (h1.below (Nat.le_refl _) (by simp))); clear h1))
              go_ret
              exact ⟨rfl, HZ5.out.l⟩
end Go.Proofs.Ytndamiocmdnenaa
