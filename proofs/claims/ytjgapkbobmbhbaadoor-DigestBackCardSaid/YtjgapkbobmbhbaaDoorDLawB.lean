/- The walk of DigestBack. (Written by gen_dback.py.) -/
import Derived.Test.YtjgapkbobmbhbaaDoorDHead
import Derived.Test.YtjgapkbobmbhbaaDoorDBackM
import Derived.Test.YtjgapkbobmbhbaaDoorOpen
namespace Go.Proofs.YtjgapkbobmbhbaaDoor
set_option linter.unusedVariables false
set_option linter.unusedSimpArgs false
open Go.RowKit

theorem gen_any {P : Program} {md : Region.Mode} {ops : Array Oper} {Q : Exit → Act → World → Prop} {S' : World → Prop} {fuel : Nat} {listed : Array Bool} {a : Act} {w : World} (S : World → Prop) (hS : S w) (h : ∀ u, S u → wpAnyH P md ops Q S' fuel listed a u) : wpAnyH P md ops Q S' fuel listed a w := h w hS
theorem yieldsIf_cat {P : Program} {ops : Array Oper} {S : World → Prop} {oi : Oper} {a : Act} (hw : Region.wanted oi (yielded ops a.tmps) = true) (t u : TypeId) (x y : Operand) (ho : oi.op = .binOp .add t x y u) (p q : ByteArray) (hx : a.eval x = .string p) (hy : a.eval y = .string q)
    (hs : p.size + q.size ≤ 9223372036854775807) : YieldsIf P ops S oi (.string (p ++ q)) a :=
  .inl ⟨hw, fun w _ => by
    unfold execOp
    simp [ho, hx, hy, eqGuard, binOp_string_add, run_string_add_sum _ _ _ hs]⟩
theorem cat_small1 (h : ByteArray) (k : Nat) (ch : UInt8) (hs : h.size ≤ 18000) : (h.extract 0 k).size + (⟨#[ch]⟩ : ByteArray).size ≤ 9223372036854775807 := by
  have e : (⟨#[ch]⟩ : ByteArray).size = 1 := rfl
  rw [ByteArray.size_extract, e]; omega
theorem cat_small2 (h : ByteArray) (k k1 : Nat) (ch : UInt8) (hs : h.size ≤ 18000) : (h.extract 0 k ++ ⟨#[ch]⟩ : ByteArray).size + (h.extract k1 h.size).size ≤ 9223372036854775807 := by
  have e : (⟨#[ch]⟩ : ByteArray).size = 1 := rfl
  rw [ByteArray.size_append, ByteArray.size_extract, ByteArray.size_extract, e]; omega
theorem extract_list (s : ByteArray) (i j : Nat) : (s.extract i j).data.toList = (s.data.toList.take j).drop i := by
  rw [ByteArray.data_extract, Array.toList_extract, List.extract_eq_take_drop, List.drop_take]
theorem bytes_ext {a b : ByteArray} (h : a.data.toList = b.data.toList) : a = b := by
  cases a; cases b; congr 1; exact Array.ext' h

set_option maxRecDepth 100000 in
set_option maxHeartbeats 4000000 in
theorem walk_DigestBack (A : Option Addr) (l : List UInt8) (n c : Nat) (s : ByteArray) (at2 : Int) (c3 : Int) (W : World) (w0 : InB W A l n c) (w1 : s.size ≤ maxLen) (w2 : (Lit.int .u16 at2).wf = true) (w3 : (Lit.int .u8 c3).wf = true) (hG : Gl W) :
    Calls Tryd.prog 5 #[.slice A n c, .string s, .int .u16 at2, .int .u8 c3] W fun e w' => e = .returned (.bool true) ∧ Below W.heap.size W w' := by
  have hat : 0 ≤ at2 ∧ at2 ≤ 65535 := by
    have e1 : IntKind.u16.min = 0 := by decide
    have e2 : IntKind.u16.max = 65535 := by decide
    simp only [Lit.wf, e1, e2, Bool.and_eq_true, decide_eq_true_eq] at w2
    exact w2
  have hc3 : 0 ≤ c3 ∧ c3 ≤ 255 := by
    have e1 : IntKind.u8.min = 0 := by decide
    have e2 : IntKind.u8.max = 255 := by decide
    simp only [Lit.wf, e1, e2, Bool.and_eq_true, decide_eq_true_eq] at w3
    exact w3
  obtain ⟨atn, rfl⟩ := Int.eq_ofNat_of_zero_le hat.1
  obtain ⟨cn, rfl⟩ := Int.eq_ofNat_of_zero_le hc3.1
  obtain ⟨ch, hch⟩ : ∃ ch : UInt8, ch.toNat = cn := ⟨UInt8.ofNat cn, by rw [UInt8.toNat_ofNat']; omega⟩
  have HCH := Lib.hid hch
  have HI := Lib.hid w0
  have HG := Lib.hid hG
  have hcap := w0.cap
  unfold maxLen at w1
  clear w0 hG w2 w3 hch
  by_cases g1 : 9000 < n
  · go_enter Tryd.func5, Tryd.ntmps5
    go_wp2_with fail
    refine (dhead_ok _ HG.out).mono ?_
    rintro e w1 ⟨rfl, hb1⟩
    go_wp2_with fail
    go_ret
    exact ⟨rfl, hb1⟩
  by_cases g2 : 9000 < s.size
  · go_enter Tryd.func5, Tryd.ntmps5
    go_wp2_with fail
    refine (dhead_ok _ HG.out).mono ?_
    rintro e w1 ⟨rfl, hb1⟩
    go_wp2_with fail
    go_ret
    exact ⟨rfl, hb1⟩
  have hn9 : n ≤ 9000 := by omega
  have HN9 := Lib.hid hn9
  have HS9 := Lib.hid (show s.size ≤ 9000 by omega)
  obtain ⟨h, hh⟩ : ∃ h : ByteArray, h = ⟨(hexB l).toArray⟩ := ⟨_, rfl⟩
  have HH := Lib.hid hh
  have HHL := Lib.hid (show h.data.toList = hexB l by rw [hh])
  have HHS := Lib.hid (show h.size = 2 * n by rw [hh]; show (hexB l).toArray.size = _; rw [List.size_toArray, hexB_len, HI.out.len])
  have hsz : (h.size : Int) = 2 * (n : Int) := by have := HHS.out; omega
  go_enter Tryd.func5, Tryd.ntmps5
  go_wp2_with fail
  refine (dhead_ok _ HG.out).mono ?_
  rintro e w1 ⟨rfl, hb1⟩
  have HB1 := Lib.hid hb1
  clear hb1
  go_wp2_with fail
  refine (hex_ok A n c l _ HI.out.len (by omega) ((HI.out.rb.below HB1.out (Nat.le_refl _)).more HB1.out.size)).mono ?_
  rintro e w2 ⟨rfl, hb2⟩
  have HB2 := Lib.hid (HB1.out.trans (hb2.mono HB1.out.size))
  clear hb2
  rw [← hh]
  clear hh
  go_wp2_with fail
  refine (unhex_good h l _ (by rw [HHS.out]; omega) (by rw [HHL.out, unhexB_hexB])).mono ?_
  rintro e w3 ⟨g, rfl, hR, hg, hb3⟩
  have HB3 := Lib.hid (HB2.out.trans (hb3.mono HB2.out.size))
  rw [HI.out.len]
  have hs1 := str_of (P := Tryd.prog) hR 22 5 9 Tryd.underlying22 Tryd.underlying5 Tryd.underlying9 n n HI.out.len
  have hs2 := str_of (P := Tryd.prog) (HI.out.rb.below HB3.out (Nat.le_refl _)) 22 5 9 Tryd.underlying22 Tryd.underlying5 Tryd.underlying9 n c HI.out.len
  obtain ⟨B, hB⟩ : ∃ B : ByteArray, B = ⟨l.toArray⟩ := ⟨_, rfl⟩
  rw [← hB] at hs1 hs2
  clear hB hR hb3 hg
  go_wp2_with fail
  refine (unhex_ok s _ (by have := HS9.out; omega)).mono ?_
  intro e w4 hp4
  clear hs1 hs2
  rcases hp4 with ⟨l2, g2', hu, rfl, hR4, hg4, hb4⟩ | ⟨hu, rfl, hb4⟩
  · have HE := Lib.hid (show (⟨(hexB l2).toArray⟩ : ByteArray) = s from bytes_ext (hexB_unhexB _ _ hu))
    have hl2 : 2 * l2.length = s.size := by
      have h1 := hexB_len l2
      rw [hexB_unhexB _ _ hu] at h1
      exact h1.symm
    have HB4 := Lib.hid (HB3.out.trans (hb4.mono HB3.out.size))
    go_wp2_with fail
    refine (hex_ok (some ⟨g2', 0, none⟩) l2.length l2.length l2 _ rfl (by have := HS9.out; omega) hR4).mono ?_
    rintro e w5 ⟨rfl, hb5⟩
    have HBX := Lib.hid (HB4.out.trans (hb5.mono HB4.out.size))
    clear hb4 hb5 hR4 hg4 hl2 hu
    rw [HE.out]
    by_cases hn0 : n = 0
    · have hz : 2 * (n : Int) = 0 := by omega
      go_wp2_with fail
      go_ret
      exact ⟨rfl, HBX.out⟩
    have hz : (2 * (n : Int) == 0) = false := beq_false_of_ne (by omega)
    have hz1 : (1 : Int) ≤ 2 * (n : Int) := by omega
    have hz2 : ¬ (2 * (n : Int) = 0) := by omega
    go_wp2_with fail
    refine (unhex_bad (h.extract 1 h.size) _ (by rw [ByteArray.size_extract, HHS.out]; omega) (by rw [extract_list, HHL.out, List.take_of_length_le (by rw [hexB_len, HI.out.len, HHS.out]; omega)]; exact unhexB_tail l (by rw [HI.out.len]; omega))).mono ?_
    rintro e w6 ⟨rfl, hb6⟩
    have HB6 := Lib.hid (HBX.out.trans (hb6.mono HBX.out.size))
    clear hb6 hz hz1
    obtain ⟨k, hk⟩ : ∃ k, k = atn % (2 * n) := ⟨_, rfl⟩
    have hk2 : k < 2 * n := by rw [hk]; exact Nat.mod_lt _ (by omega)
    have m1 : (atn : Int) % (2 * (n : Int)) = (k : Int) := by rw [hk]; simp
    have m2 : (atn : Int).tmod (2 * (n : Int)) = (k : Int) := by rw [Int.tmod_eq_emod_of_nonneg (by omega)]; exact m1
    have m3 : IntKind.i64.wrap (atn : Int) = (atn : Int) := by rw [IntKind.wrap_i64]; omega
    have HK := Lib.hid hk2
    clear hk
    go_upto_region 15 with fail
    go_cut [18] from 82 (fun v18 wx => v18 = .bool (val ch).isSome ∧ wx = w6)
    case first =>
      have HVI := Lib.hid (show (val ch).isSome = ((decide (48 ≤ cn) && decide (cn ≤ 57)) || (decide (97 ≤ cn) && decide (cn ≤ 102))) by rw [val_isSome, HCH.out])
      rcases Nat.lt_or_ge cn 48 with a1 | a1
      · have t1 : (cn : Int) < 48 := by omega
        have t2 : (cn : Int) < 97 := by omega
        go_wp2_with fail
        go_meet
        case rel => exact ⟨by rw [HVI.out, decide_eq_false (by omega), decide_eq_false (show ¬ 97 ≤ cn by omega)]; rfl, rfl⟩
      · have t1 : (48 : Int) ≤ (cn : Int) := by omega
        rcases Nat.lt_or_ge 57 cn with a2 | a2
        · have t2 : (57 : Int) < (cn : Int) := by omega
          rcases Nat.lt_or_ge cn 97 with a3 | a3
          · have t3 : (cn : Int) < 97 := by omega
            go_wp2_with fail
            go_meet
            case rel => exact ⟨by (rw [HVI.out]; congr 1; rw [Bool.eq_iff_iff]; simp only [Bool.or_eq_true, Bool.and_eq_true, decide_eq_true_eq]; omega), rfl⟩
          · have t3 : (97 : Int) ≤ (cn : Int) := by omega
            rcases Nat.lt_or_ge 102 cn with a4 | a4
            · have t4 : (102 : Int) < (cn : Int) := by omega
              go_wp2_with fail
              go_meet
              case rel => exact ⟨by (rw [HVI.out]; congr 1; rw [Bool.eq_iff_iff]; simp only [Bool.or_eq_true, Bool.and_eq_true, decide_eq_true_eq]; omega), rfl⟩
            · have t4 : (cn : Int) ≤ 102 := by omega
              go_wp2_with fail
              go_meet
              case rel => exact ⟨by rw [HVI.out, decide_eq_true a3, decide_eq_true a4, Bool.and_true, Bool.or_true], rfl⟩
        · have t2 : (cn : Int) ≤ 57 := by omega
          go_wp2_with fail
          go_meet
          case rel => exact ⟨by rw [HVI.out, decide_eq_true a1, decide_eq_true a2, Bool.and_true, Bool.true_or], rfl⟩
    case rest =>
      obtain ⟨rfl, rfl⟩ := hcut
      obtain ⟨k1, hk1⟩ : ∃ k1, k1 = k + 1 := ⟨_, rfl⟩
      obtain ⟨X, hX⟩ : ∃ X, X = (h.extract 0 k ++ ⟨#[ch]⟩) ++ h.extract k1 h.size := ⟨_, rfl⟩
      have hXL : X.data.toList = (hexB l).take k ++ [ch] ++ (hexB l).drop (k + 1) := by
        rw [hX, hk1]
        have e1 : ((h.extract 0 k ++ ⟨#[ch]⟩) ++ h.extract (k + 1) h.size).data.toList = (h.extract 0 k).data.toList ++ [ch] ++ (h.extract (k + 1) h.size).data.toList := by
          rw [ByteArray.data_append, ByteArray.data_append, Array.toList_append, Array.toList_append]
        rw [e1, extract_list, extract_list, HHL.out, List.drop_zero, List.take_of_length_le (show (hexB l).length ≤ h.size by rw [hexB_len, HI.out.len, HHS.out]; omega)]
      have HXS := Lib.hid (show X.size ≤ 1099511627776 by
        have e1 : X.size = X.data.toList.length := rfl
        rw [e1, hXL, List.length_append, List.length_append, List.length_take, List.length_drop, hexB_len, HI.out.len, List.length_singleton]
        have := HN9.out
        omega)
      obtain ⟨bb, hbb⟩ : ∃ bb, bb = (val ch).isSome := ⟨_, rfl⟩
      have HBX2 := Lib.hid (show (unhexB X.data.toList).isSome = bb by
        rw [hXL, hbb]
        exact unhexB_turned l k ch (by rw [hexB_len, HI.out.len]; have := HK.out; omega))
      rw [← hbb]
      clear hbb hXL
      have q1 : (k : Int) ≤ 2 * (n : Int) := by omega
      have q2 : (k1 : Int) ≤ 2 * (n : Int) := by omega
      obtain ⟨q3, q4⟩ := iwrap ((k : Int) + 1) k1 (by omega) (by omega)
      have HNEW := Lib.hid (show Rb (wc.alloc (.cells #[.int .u8 (cn : Int)] 5)).drew (wc.alloc (.cells #[.int .u8 (cn : Int)] 5)).drew.heap.size (some ⟨wc.heap.size, 0, none⟩) [ch] by
        rw [← HCH.out]
        exact (Rb.bk (Bk.new wc 5 (bcells [ch]))).more (by show _ ≤ (wc.heap.push _).size; rw [Array.size_push]; omega))
      have HNB := Lib.hid (show Below W.heap.size W (wc.alloc (.cells #[.int .u8 (cn : Int)] 5)).drew from (HB6.out.alloc HB6.out.size _).drew)
      have HJ1 := Lib.hid (cat_small1 h k ch (by rw [HHS.out]; have := HN9.out; omega))
      have HJ2 := Lib.hid (cat_small2 h k k1 ch (by rw [HHS.out]; have := HN9.out; omega))
      clear hk1 m1 m2 m3 hk2
      have HX0 := Lib.hid hX
      clear hX
      go_wp2_with fail
      refine wp_region_held_drew (S := fun _ => True) (by kernel_rfl) (trivial) (fun hHeld => ?_)
      refine take_at (some 97) (i := 0) (v := ?_) rfl rfl (by kernel_rfl) (by kernel_rfl) (by kernel_rfl) (fun _ _ _ h => h) (Or.inl ⟨by kernel_rfl, ?_⟩) hHeld ?_
      rotate_left
      · intro wz hSw; go_simp; try (with_reducible rfl)
      try simp only [Act.put, List.setIfInBounds_toArray, List.set_cons_zero, List.set_cons_succ, List.getElem_toArray, List.getElem_cons_succ, List.getElem_cons_zero]
      refine take_at (some 98) (i := 1) (v := ?_) rfl rfl (by kernel_rfl) (by kernel_rfl) (by kernel_rfl) (fun _ _ _ h => h) (Or.inl ⟨by kernel_rfl, ?_⟩) hHeld ?_
      rotate_left
      · intro wz hSw; go_simp; try (with_reducible rfl)
      try simp only [Act.put, List.setIfInBounds_toArray, List.set_cons_zero, List.set_cons_succ, List.getElem_toArray, List.getElem_cons_succ, List.getElem_cons_zero]
      refine take_at (some 99) (i := 2) (v := ?_) rfl rfl (by kernel_rfl) (by kernel_rfl) (by kernel_rfl) (fun _ _ _ h => h) (Or.inl ⟨by kernel_rfl, ?_⟩) hHeld ?_
      rotate_left
      · intro wz hSw; go_simp; try (with_reducible rfl)
      try simp only [Act.put, List.setIfInBounds_toArray, List.set_cons_zero, List.set_cons_succ, List.getElem_toArray, List.getElem_cons_succ, List.getElem_cons_zero]
      refine take_at (some 100) (i := 3) (v := ?_) rfl rfl (by kernel_rfl) (by kernel_rfl) (by kernel_rfl) (fun _ _ _ h => h) (Or.inl ⟨by kernel_rfl, ?_⟩) hHeld ?_
      rotate_left
      · intro wz hSw; go_simp; try (with_reducible rfl)
      try simp only [Act.put, List.setIfInBounds_toArray, List.set_cons_zero, List.set_cons_succ, List.getElem_toArray, List.getElem_cons_succ, List.getElem_cons_zero]
      refine take_at (some 104) (i := 7) (v := ?_) rfl rfl (by kernel_rfl) (by kernel_rfl) (by kernel_rfl) (fun _ _ _ h => h) (Or.inl ⟨by kernel_rfl, ?_⟩) hHeld ?_
      rotate_left
      · intro wz hSw; go_simp; try (with_reducible rfl)
      try simp only [Act.put, List.setIfInBounds_toArray, List.set_cons_zero, List.set_cons_succ, List.getElem_toArray, List.getElem_cons_succ, List.getElem_cons_zero]
      refine take_at (some 105) (i := 8) (v := ?_) rfl rfl (by kernel_rfl) (by kernel_rfl) (by kernel_rfl) (fun _ _ _ h => h) (Or.inl ⟨by kernel_rfl, ?_⟩) hHeld ?_
      rotate_left
      · intro wz hSw; go_simp; try (with_reducible rfl)
      try simp only [Act.put, List.setIfInBounds_toArray, List.set_cons_zero, List.set_cons_succ, List.getElem_toArray, List.getElem_cons_succ, List.getElem_cons_zero]
      refine take_at (some 106) (i := 9) (v := ?_) rfl rfl (by kernel_rfl) (by kernel_rfl) (by kernel_rfl) (fun _ _ _ h => h) (Or.inl ⟨by kernel_rfl, ?_⟩) hHeld ?_
      rotate_left
      · intro wz hSw; go_simp; try (with_reducible rfl)
      try simp only [Act.put, List.setIfInBounds_toArray, List.set_cons_zero, List.set_cons_succ, List.getElem_toArray, List.getElem_cons_succ, List.getElem_cons_zero]
      refine take_at (some 107) (i := 10) (v := ?_) rfl rfl (by kernel_rfl) (by kernel_rfl) (by kernel_rfl) (fun _ _ _ h => h) (Or.inl ⟨by kernel_rfl, ?_⟩) hHeld ?_
      rotate_left
      · intro wz hSw; go_simp; try (with_reducible rfl)
      try simp only [Act.put, List.setIfInBounds_toArray, List.set_cons_zero, List.set_cons_succ, List.getElem_toArray, List.getElem_cons_succ, List.getElem_cons_zero]
      refine wpAnyH_ready (rs := [4]) (by kernel_rfl) (by simp) (AllReadyH.cons rfl (fun K hK => ?_) AllReadyH.nil)
      rw [if_pos (by kernel_rfl)]
      go_simp
      try dsimp only
      refine hK.out _ _ trivial (fun hHeld => ?_)
      try simp only [Act.put, List.setIfInBounds_toArray, List.set_cons_zero, List.set_cons_succ, List.getElem_toArray, List.getElem_cons_succ, List.getElem_cons_zero]
      refine gen_any (fun u => Rb u u.heap.size (some ⟨wc.heap.size, 0, none⟩) [ch] ∧ Below W.heap.size W u) ⟨HNEW.out, HNB.out⟩ (fun w7 hw7 => ?_)
      have HB7 := Lib.hid hw7.2
      have hcv := str_of (P := Tryd.prog) hw7.1 22 5 9 Tryd.underlying22 Tryd.underlying5 Tryd.underlying9 1 1 rfl
      clear hw7
      refine wpAnyH_ready (rs := [5]) (by kernel_rfl) (by simp) (AllReadyH.cons rfl (fun K hK => ?_) AllReadyH.nil)
      rw [if_pos (by kernel_rfl)]
      go_simp
      try dsimp only
      refine hK.out _ _ trivial (fun hHeld => ?_)
      try simp only [Act.put, List.setIfInBounds_toArray, List.set_cons_zero, List.set_cons_succ, List.getElem_toArray, List.getElem_cons_succ, List.getElem_cons_zero]
      clear hcv
      refine take_at (some 103) (i := 6) rfl rfl (by kernel_rfl) (by kernel_rfl) (by kernel_rfl) (fun _ _ _ h => h) (yieldsIf_cat (by kernel_rfl) _ _ (.tmp 99) (.tmp 102) rfl (h.extract 0 k) ⟨#[ch]⟩ rfl rfl HJ1.out) hHeld ?_
      try simp only [Act.put, List.setIfInBounds_toArray, List.set_cons_zero, List.set_cons_succ, List.getElem_toArray, List.getElem_cons_succ, List.getElem_cons_zero]
      refine take_at (some 108) (i := 11) rfl rfl (by kernel_rfl) (by kernel_rfl) (by kernel_rfl) (fun _ _ _ h => h) (yieldsIf_cat (by kernel_rfl) _ _ (.tmp 103) (.tmp 107) rfl (h.extract 0 k ++ ⟨#[ch]⟩) (h.extract k1 h.size) rfl rfl HJ2.out) hHeld ?_
      try simp only [Act.put, List.setIfInBounds_toArray, List.set_cons_zero, List.set_cons_succ, List.getElem_toArray, List.getElem_cons_succ, List.getElem_cons_zero]
      refine wpAnyH_ready (rs := [12]) (by kernel_rfl) (by simp) (AllReadyH.cons rfl (fun K hK => ?_) AllReadyH.nil)
      rw [if_pos (by kernel_rfl)]
      go_simp
      rw [← HX0.out]
      refine (unhex_ok X _ HXS.out).mono ?_
      rintro e w8 hp8
      have hend : ∃ A8 n8, e = .returned (.tuple #[.slice A8 n8 n8, .bool bb]) ∧ Below W.heap.size W w8 := by
        rcases hp8 with ⟨l8, g8, hu, rfl, _, _, hb8⟩ | ⟨hu, rfl, hb8⟩
        · refine ⟨some ⟨g8, 0, none⟩, l8.length, ?_, HB7.out.trans (hb8.mono HB7.out.size)⟩
          rw [show bb = true by rw [← HBX2.out, hu]; rfl]
        · refine ⟨none, 0, ?_, HB7.out.trans (hb8.mono HB7.out.size)⟩
          rw [show bb = false by rw [← HBX2.out, hu]; rfl]
      obtain ⟨A8, n8, rfl, hb8⟩ := hend
      clear hp8
      try dsimp only
      refine hK.out _ _ trivial (fun hHeld => ?_)
      try simp only [Act.put, List.setIfInBounds_toArray, List.set_cons_zero, List.set_cons_succ, List.getElem_toArray, List.getElem_cons_succ, List.getElem_cons_zero]
      refine take_at (some 96) (i := 13) (v := ?_) rfl rfl (by kernel_rfl) (by kernel_rfl) (by kernel_rfl) (fun _ _ _ h => h) (Or.inl ⟨by kernel_rfl, ?_⟩) hHeld ?_
      rotate_left
      · intro wz hSw; go_simp; try (with_reducible rfl)
      try simp only [Act.put, List.setIfInBounds_toArray, List.set_cons_zero, List.set_cons_succ, List.getElem_toArray, List.getElem_cons_succ, List.getElem_cons_zero]
      refine take_at (some 110) (i := 14) (v := ?_) rfl rfl (by kernel_rfl) (by kernel_rfl) (by kernel_rfl) (fun _ _ _ h => h) (Or.inl ⟨by kernel_rfl, ?_⟩) hHeld ?_
      rotate_left
      · intro wz hSw; go_simp; try (with_reducible rfl)
      try simp only [Act.put, List.setIfInBounds_toArray, List.set_cons_zero, List.set_cons_succ, List.getElem_toArray, List.getElem_cons_succ, List.getElem_cons_zero]
      refine take_at (some 111) (i := 15) (v := ?_) rfl rfl (by kernel_rfl) (by kernel_rfl) (by kernel_rfl) (fun _ _ _ h => h) (Or.inl ⟨by kernel_rfl, ?_⟩) hHeld ?_
      rotate_left
      · intro wz hSw; go_simp; try (with_reducible rfl)
      try simp only [Act.put, List.setIfInBounds_toArray, List.set_cons_zero, List.set_cons_succ, List.getElem_toArray, List.getElem_cons_succ, List.getElem_cons_zero]
      refine take_at (some 19) (i := 16) (v := ?_) rfl rfl (by kernel_rfl) (by kernel_rfl) (by kernel_rfl) (fun _ _ _ h => h) (Or.inl ⟨by kernel_rfl, ?_⟩) hHeld ?_
      rotate_left
      · intro wz hSw; go_simp; try (with_reducible rfl)
      try simp only [Act.put, List.setIfInBounds_toArray, List.set_cons_zero, List.set_cons_succ, List.getElem_toArray, List.getElem_cons_succ, List.getElem_cons_zero]
      refine take_at (some 20) (i := 17) (v := ?_) rfl rfl (by kernel_rfl) (by kernel_rfl) (by kernel_rfl) (fun _ _ _ h => h) (Or.inl ⟨by kernel_rfl, ?_⟩) hHeld ?_
      rotate_left
      · intro wz hSw; go_simp; try (with_reducible rfl)
      try simp only [Act.put, List.setIfInBounds_toArray, List.set_cons_zero, List.set_cons_succ, List.getElem_toArray, List.getElem_cons_succ, List.getElem_cons_zero]
      refine wpAnyH_done (by kernel_rfl) ?_ _
      go_wp2_with fail
      go_ret
      exact ⟨by cases bb <;> rfl, hb8⟩
  · have HBX := Lib.hid (HB3.out.trans (hb4.mono HB3.out.size))
    clear hb4 hu
    by_cases hn0 : n = 0
    · have hz : 2 * (n : Int) = 0 := by omega
      go_wp2_with fail
      go_ret
      exact ⟨rfl, HBX.out⟩
    have hz : (2 * (n : Int) == 0) = false := beq_false_of_ne (by omega)
    have hz1 : (1 : Int) ≤ 2 * (n : Int) := by omega
    have hz2 : ¬ (2 * (n : Int) = 0) := by omega
    go_wp2_with fail
    refine (unhex_bad (h.extract 1 h.size) _ (by rw [ByteArray.size_extract, HHS.out]; omega) (by rw [extract_list, HHL.out, List.take_of_length_le (by rw [hexB_len, HI.out.len, HHS.out]; omega)]; exact unhexB_tail l (by rw [HI.out.len]; omega))).mono ?_
    rintro e w6 ⟨rfl, hb6⟩
    have HB6 := Lib.hid (HBX.out.trans (hb6.mono HBX.out.size))
    clear hb6 hz hz1
    obtain ⟨k, hk⟩ : ∃ k, k = atn % (2 * n) := ⟨_, rfl⟩
    have hk2 : k < 2 * n := by rw [hk]; exact Nat.mod_lt _ (by omega)
    have m1 : (atn : Int) % (2 * (n : Int)) = (k : Int) := by rw [hk]; simp
    have m2 : (atn : Int).tmod (2 * (n : Int)) = (k : Int) := by rw [Int.tmod_eq_emod_of_nonneg (by omega)]; exact m1
    have m3 : IntKind.i64.wrap (atn : Int) = (atn : Int) := by rw [IntKind.wrap_i64]; omega
    have HK := Lib.hid hk2
    clear hk
    go_upto_region 15 with fail
    go_cut [18] from 82 (fun v18 wx => v18 = .bool (val ch).isSome ∧ wx = w6)
    case first =>
      have HVI := Lib.hid (show (val ch).isSome = ((decide (48 ≤ cn) && decide (cn ≤ 57)) || (decide (97 ≤ cn) && decide (cn ≤ 102))) by rw [val_isSome, HCH.out])
      rcases Nat.lt_or_ge cn 48 with a1 | a1
      · have t1 : (cn : Int) < 48 := by omega
        have t2 : (cn : Int) < 97 := by omega
        go_wp2_with fail
        go_meet
        case rel => exact ⟨by rw [HVI.out, decide_eq_false (by omega), decide_eq_false (show ¬ 97 ≤ cn by omega)]; rfl, rfl⟩
      · have t1 : (48 : Int) ≤ (cn : Int) := by omega
        rcases Nat.lt_or_ge 57 cn with a2 | a2
        · have t2 : (57 : Int) < (cn : Int) := by omega
          rcases Nat.lt_or_ge cn 97 with a3 | a3
          · have t3 : (cn : Int) < 97 := by omega
            go_wp2_with fail
            go_meet
            case rel => exact ⟨by (rw [HVI.out]; congr 1; rw [Bool.eq_iff_iff]; simp only [Bool.or_eq_true, Bool.and_eq_true, decide_eq_true_eq]; omega), rfl⟩
          · have t3 : (97 : Int) ≤ (cn : Int) := by omega
            rcases Nat.lt_or_ge 102 cn with a4 | a4
            · have t4 : (102 : Int) < (cn : Int) := by omega
              go_wp2_with fail
              go_meet
              case rel => exact ⟨by (rw [HVI.out]; congr 1; rw [Bool.eq_iff_iff]; simp only [Bool.or_eq_true, Bool.and_eq_true, decide_eq_true_eq]; omega), rfl⟩
            · have t4 : (cn : Int) ≤ 102 := by omega
              go_wp2_with fail
              go_meet
              case rel => exact ⟨by rw [HVI.out, decide_eq_true a3, decide_eq_true a4, Bool.and_true, Bool.or_true], rfl⟩
        · have t2 : (cn : Int) ≤ 57 := by omega
          go_wp2_with fail
          go_meet
          case rel => exact ⟨by rw [HVI.out, decide_eq_true a1, decide_eq_true a2, Bool.and_true, Bool.true_or], rfl⟩
    case rest =>
      obtain ⟨rfl, rfl⟩ := hcut
      obtain ⟨k1, hk1⟩ : ∃ k1, k1 = k + 1 := ⟨_, rfl⟩
      obtain ⟨X, hX⟩ : ∃ X, X = (h.extract 0 k ++ ⟨#[ch]⟩) ++ h.extract k1 h.size := ⟨_, rfl⟩
      have hXL : X.data.toList = (hexB l).take k ++ [ch] ++ (hexB l).drop (k + 1) := by
        rw [hX, hk1]
        have e1 : ((h.extract 0 k ++ ⟨#[ch]⟩) ++ h.extract (k + 1) h.size).data.toList = (h.extract 0 k).data.toList ++ [ch] ++ (h.extract (k + 1) h.size).data.toList := by
          rw [ByteArray.data_append, ByteArray.data_append, Array.toList_append, Array.toList_append]
        rw [e1, extract_list, extract_list, HHL.out, List.drop_zero, List.take_of_length_le (show (hexB l).length ≤ h.size by rw [hexB_len, HI.out.len, HHS.out]; omega)]
      have HXS := Lib.hid (show X.size ≤ 1099511627776 by
        have e1 : X.size = X.data.toList.length := rfl
        rw [e1, hXL, List.length_append, List.length_append, List.length_take, List.length_drop, hexB_len, HI.out.len, List.length_singleton]
        have := HN9.out
        omega)
      obtain ⟨bb, hbb⟩ : ∃ bb, bb = (val ch).isSome := ⟨_, rfl⟩
      have HBX2 := Lib.hid (show (unhexB X.data.toList).isSome = bb by
        rw [hXL, hbb]
        exact unhexB_turned l k ch (by rw [hexB_len, HI.out.len]; have := HK.out; omega))
      rw [← hbb]
      clear hbb hXL
      have q1 : (k : Int) ≤ 2 * (n : Int) := by omega
      have q2 : (k1 : Int) ≤ 2 * (n : Int) := by omega
      obtain ⟨q3, q4⟩ := iwrap ((k : Int) + 1) k1 (by omega) (by omega)
      have HNEW := Lib.hid (show Rb (wc.alloc (.cells #[.int .u8 (cn : Int)] 5)).drew (wc.alloc (.cells #[.int .u8 (cn : Int)] 5)).drew.heap.size (some ⟨wc.heap.size, 0, none⟩) [ch] by
        rw [← HCH.out]
        exact (Rb.bk (Bk.new wc 5 (bcells [ch]))).more (by show _ ≤ (wc.heap.push _).size; rw [Array.size_push]; omega))
      have HNB := Lib.hid (show Below W.heap.size W (wc.alloc (.cells #[.int .u8 (cn : Int)] 5)).drew from (HB6.out.alloc HB6.out.size _).drew)
      have HJ1 := Lib.hid (cat_small1 h k ch (by rw [HHS.out]; have := HN9.out; omega))
      have HJ2 := Lib.hid (cat_small2 h k k1 ch (by rw [HHS.out]; have := HN9.out; omega))
      clear hk1 m1 m2 m3 hk2
      have HX0 := Lib.hid hX
      clear hX
      go_wp2_with fail
      refine wp_region_held_drew (S := fun _ => True) (by kernel_rfl) (trivial) (fun hHeld => ?_)
      refine take_at (some 97) (i := 0) (v := ?_) rfl rfl (by kernel_rfl) (by kernel_rfl) (by kernel_rfl) (fun _ _ _ h => h) (Or.inl ⟨by kernel_rfl, ?_⟩) hHeld ?_
      rotate_left
      · intro wz hSw; go_simp; try (with_reducible rfl)
      try simp only [Act.put, List.setIfInBounds_toArray, List.set_cons_zero, List.set_cons_succ, List.getElem_toArray, List.getElem_cons_succ, List.getElem_cons_zero]
      refine take_at (some 98) (i := 1) (v := ?_) rfl rfl (by kernel_rfl) (by kernel_rfl) (by kernel_rfl) (fun _ _ _ h => h) (Or.inl ⟨by kernel_rfl, ?_⟩) hHeld ?_
      rotate_left
      · intro wz hSw; go_simp; try (with_reducible rfl)
      try simp only [Act.put, List.setIfInBounds_toArray, List.set_cons_zero, List.set_cons_succ, List.getElem_toArray, List.getElem_cons_succ, List.getElem_cons_zero]
      refine take_at (some 99) (i := 2) (v := ?_) rfl rfl (by kernel_rfl) (by kernel_rfl) (by kernel_rfl) (fun _ _ _ h => h) (Or.inl ⟨by kernel_rfl, ?_⟩) hHeld ?_
      rotate_left
      · intro wz hSw; go_simp; try (with_reducible rfl)
      try simp only [Act.put, List.setIfInBounds_toArray, List.set_cons_zero, List.set_cons_succ, List.getElem_toArray, List.getElem_cons_succ, List.getElem_cons_zero]
      refine take_at (some 100) (i := 3) (v := ?_) rfl rfl (by kernel_rfl) (by kernel_rfl) (by kernel_rfl) (fun _ _ _ h => h) (Or.inl ⟨by kernel_rfl, ?_⟩) hHeld ?_
      rotate_left
      · intro wz hSw; go_simp; try (with_reducible rfl)
      try simp only [Act.put, List.setIfInBounds_toArray, List.set_cons_zero, List.set_cons_succ, List.getElem_toArray, List.getElem_cons_succ, List.getElem_cons_zero]
      refine take_at (some 104) (i := 7) (v := ?_) rfl rfl (by kernel_rfl) (by kernel_rfl) (by kernel_rfl) (fun _ _ _ h => h) (Or.inl ⟨by kernel_rfl, ?_⟩) hHeld ?_
      rotate_left
      · intro wz hSw; go_simp; try (with_reducible rfl)
      try simp only [Act.put, List.setIfInBounds_toArray, List.set_cons_zero, List.set_cons_succ, List.getElem_toArray, List.getElem_cons_succ, List.getElem_cons_zero]
      refine take_at (some 105) (i := 8) (v := ?_) rfl rfl (by kernel_rfl) (by kernel_rfl) (by kernel_rfl) (fun _ _ _ h => h) (Or.inl ⟨by kernel_rfl, ?_⟩) hHeld ?_
      rotate_left
      · intro wz hSw; go_simp; try (with_reducible rfl)
      try simp only [Act.put, List.setIfInBounds_toArray, List.set_cons_zero, List.set_cons_succ, List.getElem_toArray, List.getElem_cons_succ, List.getElem_cons_zero]
      refine take_at (some 106) (i := 9) (v := ?_) rfl rfl (by kernel_rfl) (by kernel_rfl) (by kernel_rfl) (fun _ _ _ h => h) (Or.inl ⟨by kernel_rfl, ?_⟩) hHeld ?_
      rotate_left
      · intro wz hSw; go_simp; try (with_reducible rfl)
      try simp only [Act.put, List.setIfInBounds_toArray, List.set_cons_zero, List.set_cons_succ, List.getElem_toArray, List.getElem_cons_succ, List.getElem_cons_zero]
      refine take_at (some 107) (i := 10) (v := ?_) rfl rfl (by kernel_rfl) (by kernel_rfl) (by kernel_rfl) (fun _ _ _ h => h) (Or.inl ⟨by kernel_rfl, ?_⟩) hHeld ?_
      rotate_left
      · intro wz hSw; go_simp; try (with_reducible rfl)
      try simp only [Act.put, List.setIfInBounds_toArray, List.set_cons_zero, List.set_cons_succ, List.getElem_toArray, List.getElem_cons_succ, List.getElem_cons_zero]
      refine wpAnyH_ready (rs := [4]) (by kernel_rfl) (by simp) (AllReadyH.cons rfl (fun K hK => ?_) AllReadyH.nil)
      rw [if_pos (by kernel_rfl)]
      go_simp
      try dsimp only
      refine hK.out _ _ trivial (fun hHeld => ?_)
      try simp only [Act.put, List.setIfInBounds_toArray, List.set_cons_zero, List.set_cons_succ, List.getElem_toArray, List.getElem_cons_succ, List.getElem_cons_zero]
      refine gen_any (fun u => Rb u u.heap.size (some ⟨wc.heap.size, 0, none⟩) [ch] ∧ Below W.heap.size W u) ⟨HNEW.out, HNB.out⟩ (fun w7 hw7 => ?_)
      have HB7 := Lib.hid hw7.2
      have hcv := str_of (P := Tryd.prog) hw7.1 22 5 9 Tryd.underlying22 Tryd.underlying5 Tryd.underlying9 1 1 rfl
      clear hw7
      refine wpAnyH_ready (rs := [5]) (by kernel_rfl) (by simp) (AllReadyH.cons rfl (fun K hK => ?_) AllReadyH.nil)
      rw [if_pos (by kernel_rfl)]
      go_simp
      try dsimp only
      refine hK.out _ _ trivial (fun hHeld => ?_)
      try simp only [Act.put, List.setIfInBounds_toArray, List.set_cons_zero, List.set_cons_succ, List.getElem_toArray, List.getElem_cons_succ, List.getElem_cons_zero]
      clear hcv
      refine take_at (some 103) (i := 6) rfl rfl (by kernel_rfl) (by kernel_rfl) (by kernel_rfl) (fun _ _ _ h => h) (yieldsIf_cat (by kernel_rfl) _ _ (.tmp 99) (.tmp 102) rfl (h.extract 0 k) ⟨#[ch]⟩ rfl rfl HJ1.out) hHeld ?_
      try simp only [Act.put, List.setIfInBounds_toArray, List.set_cons_zero, List.set_cons_succ, List.getElem_toArray, List.getElem_cons_succ, List.getElem_cons_zero]
      refine take_at (some 108) (i := 11) rfl rfl (by kernel_rfl) (by kernel_rfl) (by kernel_rfl) (fun _ _ _ h => h) (yieldsIf_cat (by kernel_rfl) _ _ (.tmp 103) (.tmp 107) rfl (h.extract 0 k ++ ⟨#[ch]⟩) (h.extract k1 h.size) rfl rfl HJ2.out) hHeld ?_
      try simp only [Act.put, List.setIfInBounds_toArray, List.set_cons_zero, List.set_cons_succ, List.getElem_toArray, List.getElem_cons_succ, List.getElem_cons_zero]
      refine wpAnyH_ready (rs := [12]) (by kernel_rfl) (by simp) (AllReadyH.cons rfl (fun K hK => ?_) AllReadyH.nil)
      rw [if_pos (by kernel_rfl)]
      go_simp
      rw [← HX0.out]
      refine (unhex_ok X _ HXS.out).mono ?_
      rintro e w8 hp8
      have hend : ∃ A8 n8, e = .returned (.tuple #[.slice A8 n8 n8, .bool bb]) ∧ Below W.heap.size W w8 := by
        rcases hp8 with ⟨l8, g8, hu, rfl, _, _, hb8⟩ | ⟨hu, rfl, hb8⟩
        · refine ⟨some ⟨g8, 0, none⟩, l8.length, ?_, HB7.out.trans (hb8.mono HB7.out.size)⟩
          rw [show bb = true by rw [← HBX2.out, hu]; rfl]
        · refine ⟨none, 0, ?_, HB7.out.trans (hb8.mono HB7.out.size)⟩
          rw [show bb = false by rw [← HBX2.out, hu]; rfl]
      obtain ⟨A8, n8, rfl, hb8⟩ := hend
      clear hp8
      try dsimp only
      refine hK.out _ _ trivial (fun hHeld => ?_)
      try simp only [Act.put, List.setIfInBounds_toArray, List.set_cons_zero, List.set_cons_succ, List.getElem_toArray, List.getElem_cons_succ, List.getElem_cons_zero]
      refine take_at (some 96) (i := 13) (v := ?_) rfl rfl (by kernel_rfl) (by kernel_rfl) (by kernel_rfl) (fun _ _ _ h => h) (Or.inl ⟨by kernel_rfl, ?_⟩) hHeld ?_
      rotate_left
      · intro wz hSw; go_simp; try (with_reducible rfl)
      try simp only [Act.put, List.setIfInBounds_toArray, List.set_cons_zero, List.set_cons_succ, List.getElem_toArray, List.getElem_cons_succ, List.getElem_cons_zero]
      refine take_at (some 110) (i := 14) (v := ?_) rfl rfl (by kernel_rfl) (by kernel_rfl) (by kernel_rfl) (fun _ _ _ h => h) (Or.inl ⟨by kernel_rfl, ?_⟩) hHeld ?_
      rotate_left
      · intro wz hSw; go_simp; try (with_reducible rfl)
      try simp only [Act.put, List.setIfInBounds_toArray, List.set_cons_zero, List.set_cons_succ, List.getElem_toArray, List.getElem_cons_succ, List.getElem_cons_zero]
      refine take_at (some 111) (i := 15) (v := ?_) rfl rfl (by kernel_rfl) (by kernel_rfl) (by kernel_rfl) (fun _ _ _ h => h) (Or.inl ⟨by kernel_rfl, ?_⟩) hHeld ?_
      rotate_left
      · intro wz hSw; go_simp; try (with_reducible rfl)
      try simp only [Act.put, List.setIfInBounds_toArray, List.set_cons_zero, List.set_cons_succ, List.getElem_toArray, List.getElem_cons_succ, List.getElem_cons_zero]
      refine take_at (some 19) (i := 16) (v := ?_) rfl rfl (by kernel_rfl) (by kernel_rfl) (by kernel_rfl) (fun _ _ _ h => h) (Or.inl ⟨by kernel_rfl, ?_⟩) hHeld ?_
      rotate_left
      · intro wz hSw; go_simp; try (with_reducible rfl)
      try simp only [Act.put, List.setIfInBounds_toArray, List.set_cons_zero, List.set_cons_succ, List.getElem_toArray, List.getElem_cons_succ, List.getElem_cons_zero]
      refine take_at (some 20) (i := 17) (v := ?_) rfl rfl (by kernel_rfl) (by kernel_rfl) (by kernel_rfl) (fun _ _ _ h => h) (Or.inl ⟨by kernel_rfl, ?_⟩) hHeld ?_
      rotate_left
      · intro wz hSw; go_simp; try (with_reducible rfl)
      try simp only [Act.put, List.setIfInBounds_toArray, List.set_cons_zero, List.set_cons_succ, List.getElem_toArray, List.getElem_cons_succ, List.getElem_cons_zero]
      refine wpAnyH_done (by kernel_rfl) ?_ _
      go_wp2_with fail
      go_ret
      exact ⟨by cases bb <;> rfl, hb8⟩
end Go.Proofs.YtjgapkbobmbhbaaDoor
