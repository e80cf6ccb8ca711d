/- The document's own pump: Out: its contract. (Written by gen_pur4.py.) -/
import Derived.Test.YtpomeimjgbblmaaPuR3
namespace Go.Proofs.Ytpomeimjgbblmaa
set_option linter.unusedVariables false
set_option maxRecDepth 100000
set_option linter.unusedSimpArgs false
open Go.RowKit

theorem du_no8 {p : Pu} {s0 s1 : Nat} : ∀ (j : Nat) (v : Value), (ducells p s0 s1)[j]? = some v → ∀ x : Int, v ≠ Value.int .u8 x := by
  intro j v hv x e
  subst e
  have := Array.mem_of_getElem? hv
  simp at this
theorem wy_no8 {s : Nat} {a b : Bool} {c : Int} : ∀ (j : Nat) (v : Value), (#[.pointer (some ⟨s, 0, none⟩), .bool a, .bool b, .int .i64 c] : Array Value)[j]? = some v → ∀ x : Int, v ≠ Value.int .u8 x := by
  intro j v hv x e
  subst e
  have := Array.mem_of_getElem? hv
  simp at this
section
variable {W u u' : World} {H : List Nat} {rb m : Nat} {p : Pu}
set_option maxRecDepth 100000 in
set_option maxHeartbeats 16000000 in
theorem r_out (h : Du W u H rb m p) (hf : Fu p) (s x : Int) (t : Nat) (l : List UInt8) (b : Bool) (p2 : Pu) (hE : outP p s x = ((l, b), p2)) (ht : l.length = t) :
    Calls Try.prog 15 #[.pointer (some ⟨rb, 0, none⟩), .int .i64 s, .int .i64 x] u fun e u' => ∃ H' A c, e = .returned (.tuple #[.slice A t c, .bool b]) ∧ Rf u' [rb] A l ∧ Du W u' H' rb m p2 ∧ Sp u u' H H' := by
  obtain ⟨s0, s1, A0, c0, A1, c1, h1, h2, h3, h4, h5, h6⟩ := h.ex
  obtain ⟨⟨aq, ae, ao, am⟩, ⟨bq, be, bo, bm⟩, br⟩ := p
  have HD := Lib.hid h
  have d0 : u.cell? ⟨rb, 0, none⟩ = some (.pointer (some ⟨s0, 0, none⟩)) := h1.cell 0
  have d1 : u.cell? ⟨rb, 1, none⟩ = some (.bool ae) := h1.cell 1
  have d2 : u.cell? ⟨rb, 2, none⟩ = some (.bool ao) := h1.cell 2
  have d3 : u.cell? ⟨rb, 3, none⟩ = some (.int .i64 am) := h1.cell 3
  have d4 : u.cell? ⟨rb, 4, none⟩ = some (.pointer (some ⟨s1, 0, none⟩)) := h1.cell 4
  have d5 : u.cell? ⟨rb, 5, none⟩ = some (.bool be) := h1.cell 5
  have d6 : u.cell? ⟨rb, 6, none⟩ = some (.bool bo) := h1.cell 6
  have d7 : u.cell? ⟨rb, 7, none⟩ = some (.int .i64 bm) := h1.cell 7
  have d8 : u.cell? ⟨rb, 8, none⟩ = some (.bool br) := h1.cell 8
  have HB := Lib.hid h1
  have HRR := Lib.hid (And.intro h2 h3)
  have HL := Lib.hid (And.intro h4 (And.intro h5 h6))
  have hfa := hf.a
  have hfb := hf.b
  dsimp only at hfa hfb
  have hm6 := h2.most
  have hf0 := h2.fit
  have hf1 := h3.fit
  dsimp only at hf0 hf1
  have hw0 : IntKind.i64.wrap (1 - 0) = 1 := by decide
  have hw1 : IntKind.i64.wrap (1 - 1) = 0 := by decide
  have hw2 : IntKind.i64.wrap 1 = 1 := by decide
  have hw3 : IntKind.i64.wrap 0 = 0 := by decide
  clear h h1 h2 h3 h4 h5 h6 hf
  by_cases e0 : s = 0
  · subst e0
    have HS := Lib.hid rside_0
    cases br with
    | true =>
      have e4 : [] = l := congrArg (fun r => r.1.1) hE
      have e5 : false = b := congrArg (fun r => r.1.2) hE
      have e3 := congrArg (fun r => r.2) hE
      dsimp only at e3
      subst e4; subst e5
      have HT := Lib.hid ht
      have HP2 := Lib.hid e3
      clear hE ht e3
      go_enter Try.func15, Try.ntmps15
      go_wp2_with (go_at_call 34; (with_reducible refine (HS.out _).mono ?_); rintro e w2 ⟨rfl, hw⟩; rw [hw]; clear hw)
      go_ret2
      have ht := HT.out
      simp at ht
      subst ht
      have hp2 := HP2.out
      first | exact ⟨H, none, 0, rfl, .inl rfl, by rw [← hp2]; exact HD.out, Sp.refl _ _⟩ | exact ⟨rfl, H, none, 0, .inl rfl, by rw [← hp2]; exact HD.out, Sp.refl _ _⟩ | exact ⟨H, rfl, none, 0, .inl rfl, by rw [← hp2]; exact HD.out, Sp.refl _ _⟩
    | false =>
      have e4 : bq.take (takeM x bq.length) = l := congrArg (fun r => r.1.1) hE
      have e5 : enO ⟨bq, be, bo, bm⟩ (takeM x bq.length) = b := congrArg (fun r => r.1.2) hE
      have e3 : (⟨⟨aq, ae, ao, am⟩, ⟨bq.drop (takeM x bq.length), be, bo || enO ⟨bq, be, bo, bm⟩ (takeM x bq.length), bm + (takeM x bq.length : Nat)⟩, false⟩ : Pu) = p2 := congrArg (fun r => r.2) hE
      obtain ⟨n, hn⟩ : ∃ n, bq.length = n := ⟨_, rfl⟩
      rw [hn] at e3 e4 e5 hf1
      obtain ⟨T, hT⟩ : ∃ T, takeM x n = T := ⟨_, rfl⟩
      rw [hT] at e3 e4 e5
      have hTn : T ≤ n := by rw [← hT]; exact takeM_le2 x n
      have hTt : T = t := by rw [← ht, ← e4, List.length_take, hn]; omega
      subst hTt
      rw [e5] at e3
      obtain ⟨d, hd⟩ : ∃ d, n - T = d := ⟨_, rfl⟩
      have hdl : (bq.drop T).length = d := by rw [List.length_drop, hn]; exact hd
      have HTK := Lib.hid (fun v (hr : Rs v s1 m bq A1 c1) => rtake_okF s1 m x bq A1 c1 v hr n T hn hT)
      obtain ⟨M, hM⟩ := Int.eq_ofNat_of_zero_le hfb.1
      subst hM
      obtain ⟨N, hN⟩ : ∃ N, M + T = N := ⟨_, rfl⟩
      have hwm := (iwrap ((M : Int) + (T : Int)) N (by omega) (by omega)).1
      have HN := Lib.hid hN
      have HP2 := Lib.hid e3
      have HBE := Lib.hid e5
      have HLT := Lib.hid e4
      have HDL := Lib.hid hdl
      have HND := Lib.hid (And.intro hn (And.intro hd hTn))
      have hd6 : d ≤ 65536 := by omega
      clear hE e3 e4 e5 ht hn hT hTn hd hdl hfa hfb hf0 hf1 hN
      obtain ⟨kb, hkb⟩ : ∃ kb, u.heap.size = kb := ⟨_, rfl⟩
      go_enter Try.func15, Try.ntmps15
      go_upto_region 4 with (go_at_call 34; (with_reducible refine (HS.out _).mono ?_); rintro e w2 ⟨rfl, hw⟩; rw [hw]; clear hw)
      try rw [hkb]
      obtain ⟨u1, hu1⟩ : ∃ u1, u.alloc (.cells #[.pointer (some ⟨s1, 0, none⟩), .bool be, .bool bo, .int .i64 (M : Int)] 54) = u1 := ⟨_, rfl⟩
      try rw [hu1]
      have KB1 := Lib.hid (show Bk u1 kb 54 #[.pointer (some ⟨s1, 0, none⟩), .bool be, .bool bo, .int .i64 (M : Int)] by rw [← hu1, ← hkb]; exact Bk.new _ _ _)
      have K1 := Lib.hid (show Ke [] u u1 by rw [← hu1]; exact (Ke.refl [] u).alloc _)
      have HKB := Lib.hid (show rb ≠ kb ∧ s0 ≠ kb ∧ s1 ≠ kb from ⟨by have := HB.out.lt; omega, by have := HRR.out.1.bk.lt; omega, by have := HRR.out.2.bk.lt; omega⟩)
      have e0 : u1.cell? ⟨kb, 0, none⟩ = some (.pointer (some ⟨s1, 0, none⟩)) := KB1.out.cell 0
      have R1 := Lib.hid (And.intro (HRR.out.1.ke K1.out (by simp)) (HRR.out.2.ke K1.out (by simp)))
      have B1 := Lib.hid (HB.out.ke K1.out (by simp))
      clear hu1 d0 d1 d2 d3 d4 d5 d6 d7 d8
      go_upto_region 5 with (go_at_call 35; (with_reducible refine (HTK.out u1 R1.out.2).mono ?_); rintro e u2 ⟨A2, c2, A4, c4, rfl, j1, j2, j3, j4⟩; have J := Lib.hid (And.intro j1 (And.intro j2 j3)); have JF := Lib.hid j4; clear j1 j2 j3 j4)
      clear e0
      have KB2 := Lib.hid (KB1.out.ke J.out.2.2 (by have := HKB.out; simp; omega))
      have B2 := Lib.hid (B1.out.ke J.out.2.2 (by have h1 := HL.out.1; have h2 := HL.out.2.1; simp; omega))
      have R2 := Lib.hid (show Rs u2 s0 m aq A0 c0 from R1.out.1.off R1.out.2.bk (Nat.ne_of_lt HL.out.2.1) J.out.2.2)
      have RF2 := Lib.hid (show Rf u2 (s1 :: s0 :: rb :: kb :: []) A2 l by rw [← HLT.out]; exact ((((J.out.1.rf (L := []) (by simp)).far KB2.out wy_no8).far B2.out (du_no8 (p := ⟨⟨[], ae, ao, am⟩, ⟨[], be, bo, M⟩, false⟩))).far R2.out.bk ref_no8).far J.out.2.1.bk ref_no8)
      have JRD := Lib.hid ((J.out.2.1.rd.far KB2.out wy_no8).far B2.out (du_no8 (p := ⟨⟨[], ae, ao, am⟩, ⟨[], be, bo, M⟩, false⟩)))
      have RRD := Lib.hid ((R2.out.rd.far KB2.out wy_no8).far B2.out (du_no8 (p := ⟨⟨[], ae, ao, am⟩, ⟨[], be, bo, M⟩, false⟩)))
      have e3 : u2.cell? ⟨kb, 3, none⟩ = some (.int .i64 (M : Int)) := KB2.out.cell 3
      have g3 := KB2.out.frozen 3
      obtain ⟨u3, hu3⟩ : ∃ u3, u2.setCell ⟨kb, 3, none⟩ (.int .i64 (N : Int)) = u3 := ⟨_, rfl⟩
      have KB3 := Lib.hid (show Bk u3 kb 54 #[.pointer (some ⟨s1, 0, none⟩), .bool be, .bool bo, .int .i64 (N : Int)] by rw [← hu3]; exact KB2.out.set 3 _)
      have K3 := Lib.hid (show Ke [kb] u2 u3 by rw [← hu3]; exact (Ke.refl [kb] u2).set (p := ⟨kb, 3, none⟩) (by simp) _)
      go_upto_region 6 with fail
      try rw [hu3]
      clear hu3 e3 g3 hwm
      have hkl : s0 < kb ∧ s1 < kb ∧ rb < kb := ⟨by rw [← hkb]; exact HRR.out.1.bk.lt, by rw [← hkb]; exact HRR.out.2.bk.lt, by rw [← hkb]; exact HB.out.lt⟩
      have HKL := Lib.hid hkl
      clear hkl
      have K13 := Lib.hid (show Ke [s1, kb] u1 u3 from (J.out.2.2.more (by simp)).trans (K3.out.more (by simp)))
      have JB3 := Lib.hid (J.out.2.1.bk.ke K3.out (by have := HKB.out; simp; omega))
      obtain ⟨r0, -, -⟩ := ref_cells JB3.out
      rw [HDL.out] at r0
      have e0 : u3.cell? ⟨kb, 0, none⟩ = some (.pointer (some ⟨s1, 0, none⟩)) := KB3.out.cell 0
      have e1 : u3.cell? ⟨kb, 1, none⟩ = some (.bool be) := KB3.out.cell 1
      have e2 : u3.cell? ⟨kb, 2, none⟩ = some (.bool bo) := KB3.out.cell 2
      have g2 := KB3.out.frozen 2
      cases be with
      | false =>
        cases bo with
        | true =>
          obtain ⟨u4, hu4⟩ : ∃ u4, u3.setCell ⟨kb, 2, none⟩ (.bool true) = u4 := ⟨_, rfl⟩
          have KB4 := Lib.hid (show Bk u4 kb 54 #[.pointer (some ⟨s1, 0, none⟩), .bool false, .bool true, .int .i64 (N : Int)] by rw [← hu4]; exact KB3.out.set 2 _)
          have K4 := Lib.hid (show Ke [kb] u3 u4 by rw [← hu4]; exact (Ke.refl [kb] u3).set (p := ⟨kb, 2, none⟩) (by simp) _)
          go_upto_region 8 with fail
          try rw [hu4]
          clear hu4 r0 e0 e1 e2 g2
          have B4 := Lib.hid (B2.out.ke (K3.out.trans K4.out) (by have := HKB.out; simp; omega))
          have e0 := KB4.out.cell 0
          have e1 := KB4.out.cell 1
          have e2 := KB4.out.cell 2
          have e3 := KB4.out.cell 3
          have d4 := B4.out.cell 4
          have d5 := B4.out.cell 5
          have d6 := B4.out.cell 6
          have d7 := B4.out.cell 7
          have f4 := B4.out.frozen 4
          have f5 := B4.out.frozen 5
          have f6 := B4.out.frozen 6
          have f7 := B4.out.frozen 7
          simp only [List.getElem?_toArray, List.getElem?_cons_zero, List.getElem?_cons_succ] at e0 e1 e2 e3 d4 d5 d6 d7
          go_region
          clear e0 e1 e2 e3 d4 f4 d5 f5 d6 f6 d7 f7
          go_wp2
          go_ret2
          obtain ⟨u5, hu5⟩ : ∃ u5, ((((u4.setCell ⟨rb, 4, none⟩ (.pointer (some ⟨s1, 0, none⟩))).setCell ⟨rb, 5, none⟩ (.bool false)).setCell ⟨rb, 6, none⟩ (.bool true)).setCell ⟨rb, 7, none⟩ (.int .i64 (N : Int))).drew = u5 := ⟨_, rfl⟩
          try rw [hu5]
          have k5 : Ke [rb] u4 u5 := by rw [← hu5]; exact (((((Ke.refl [rb] u4).set (p := ⟨rb, 4, none⟩) (by simp) _).set (p := ⟨rb, 5, none⟩) (by simp) _).set (p := ⟨rb, 6, none⟩) (by simp) _).set (p := ⟨rb, 7, none⟩) (by simp) _).drew
          have b5 : Bk u5 rb 57 #[.pointer (some ⟨s0, 0, none⟩), .bool ae, .bool ao, .int .i64 am, .pointer (some ⟨s1, 0, none⟩), .bool false, .bool true, .int .i64 (N : Int), .bool false] := by rw [← hu5]; exact ((((B4.out.set 4 _).set 5 _).set 6 _).set 7 _).drew
          have k35 : Ke [kb, rb] u2 u5 := ((K3.out.more (by simp)).trans (K4.out.more (by simp))).trans (k5.more (by simp))
          have hb2 : b = false := by rw [← HBE.out]; unfold enO; dsimp only; have h7 := HND.out; simp
          have hp2 := HP2.out
          have hnn : (M : Int) + (T : Int) = (N : Int) := by have := HN.out; omega
          rw [hb2, hnn] at hp2
          rw [hb2]
          try simp only [Bool.or_false, Bool.or_true, Bool.false_or, Bool.true_or] at hp2
          have rf := RF2.out.ke k35 (by simp)
          have h45 := HL.out
          have hkl := HKL.out
          have kH : Ke H u u5 := by
            have k02 : Ke H u u2 := (K1.out.more (by simp)).trans (J.out.2.2.more (fun y hy => by rw [List.mem_singleton.1 hy]; exact h45.2.2.1.2.2))
            refine ⟨k35.os.trans k02.os, k35.tape.trans k02.tape, k35.output.trans k02.output, Nat.le_trans k02.size k35.size, fun i hi hn => ?_⟩
            rw [k35.block i (Nat.lt_of_lt_of_le hi k02.size) (fun hm => ?_)]
            · exact k02.block i hi hn
            · rcases List.mem_cons.1 hm with e | e
              · omega
              · rw [List.mem_singleton.1 e] at hn; exact hn h45.2.2.1.1
          have ja : Rs u5 s1 m (bq.drop T) A4 c4 := by
            have h9 := (JRD.out.ke k35 (by simp)).less (L' := List.range (s1 + 1)) (fun y hy => by simp at hy ⊢; omega)
            exact ⟨J.out.2.1.bk.ke k35 (by simp; omega), h9, J.out.2.1.cap, J.out.2.1.max, J.out.2.1.nil_, J.out.2.1.fit, J.out.2.1.most⟩
          have jb : Rs u5 s0 m aq A0 c0 := by
            have h9 := (RRD.out.ke k35 (by simp)).less (L' := List.range (s0 + 1)) (fun y hy => by simp at hy ⊢; omega)
            exact ⟨R2.out.bk.ke k35 (by simp; omega), h9, R2.out.cap, R2.out.max, R2.out.nil_, R2.out.fit, R2.out.most⟩
          have rfH : Rf u5 [rb] A2 l := rf.less (fun y hy => by simp at hy ⊢; omega)
          have sp : Sp u u5 H (blkA A4 ++ H) := ⟨kH, fun y hy => by
            rcases List.mem_append.1 hy with e | e
            · obtain ⟨a, ha, e⟩ := mem_blkA.1 e
              exact .inr (by rw [← e]; exact Nat.le_trans K1.out.size (JF.out a ha).1)
            · exact .inl e⟩
          have hz3 : ∀ y ∈ blkA A4 ++ H, y < u5.heap.size := fun y hy => by
            rcases List.mem_append.1 hy with e | e
            · obtain ⟨a, ha, e⟩ := mem_blkA.1 e
              rw [← e]; exact Nat.lt_of_lt_of_le (JF.out a ha).2 k35.size
            · exact Nat.lt_of_lt_of_le (HD.out.hi y e) kH.size
          have he3 : (rb ∈ blkA A4 ++ H ∧ s0 ∈ blkA A4 ++ H ∧ s1 ∈ blkA A4 ++ H) := ⟨List.mem_append_right _ h45.2.2.1.1, List.mem_append_right _ h45.2.2.1.2.1, List.mem_append_right _ h45.2.2.1.2.2⟩
          have hA4 : ∀ a, A4 = some a → a.block ∈ blkA A4 ++ H := fun a ha => List.mem_append_left _ (mem_blkA.2 ⟨a, ha, rfl⟩)
          have hAo : ∀ a, A0 = some a → a.block ∈ blkA A4 ++ H := fun a ha => List.mem_append_right _ (h45.2.2.2.1 a ha)
          subst hp2
          have hfin := HD.out.turn (p' := ⟨⟨aq, ae, ao, am⟩, ⟨bq.drop T, false, true, N⟩, false⟩) sp ⟨he3, hAo, hA4⟩ hz3 b5 jb ja h45.1 h45.2.1
          first | exact ⟨blkA A4 ++ H, A2, c2, rfl, rfH, hfin, sp⟩ | exact ⟨rfl, blkA A4 ++ H, A2, c2, rfH, hfin, sp⟩
        | false =>
          obtain ⟨u4, hu4⟩ : ∃ u4, u3.setCell ⟨kb, 2, none⟩ (.bool false) = u4 := ⟨_, rfl⟩
          have KB4 := Lib.hid (show Bk u4 kb 54 #[.pointer (some ⟨s1, 0, none⟩), .bool false, .bool false, .int .i64 (N : Int)] by rw [← hu4]; exact KB3.out.set 2 _)
          have K4 := Lib.hid (show Ke [kb] u3 u4 by rw [← hu4]; exact (Ke.refl [kb] u3).set (p := ⟨kb, 2, none⟩) (by simp) _)
          go_upto_region 8 with fail
          try rw [hu4]
          clear hu4 r0 e0 e1 e2 g2
          have B4 := Lib.hid (B2.out.ke (K3.out.trans K4.out) (by have := HKB.out; simp; omega))
          have e0 := KB4.out.cell 0
          have e1 := KB4.out.cell 1
          have e2 := KB4.out.cell 2
          have e3 := KB4.out.cell 3
          have d4 := B4.out.cell 4
          have d5 := B4.out.cell 5
          have d6 := B4.out.cell 6
          have d7 := B4.out.cell 7
          have f4 := B4.out.frozen 4
          have f5 := B4.out.frozen 5
          have f6 := B4.out.frozen 6
          have f7 := B4.out.frozen 7
          simp only [List.getElem?_toArray, List.getElem?_cons_zero, List.getElem?_cons_succ] at e0 e1 e2 e3 d4 d5 d6 d7
          go_region
          clear e0 e1 e2 e3 d4 f4 d5 f5 d6 f6 d7 f7
          go_wp2
          go_ret2
          obtain ⟨u5, hu5⟩ : ∃ u5, ((((u4.setCell ⟨rb, 4, none⟩ (.pointer (some ⟨s1, 0, none⟩))).setCell ⟨rb, 5, none⟩ (.bool false)).setCell ⟨rb, 6, none⟩ (.bool false)).setCell ⟨rb, 7, none⟩ (.int .i64 (N : Int))).drew = u5 := ⟨_, rfl⟩
          try rw [hu5]
          have k5 : Ke [rb] u4 u5 := by rw [← hu5]; exact (((((Ke.refl [rb] u4).set (p := ⟨rb, 4, none⟩) (by simp) _).set (p := ⟨rb, 5, none⟩) (by simp) _).set (p := ⟨rb, 6, none⟩) (by simp) _).set (p := ⟨rb, 7, none⟩) (by simp) _).drew
          have b5 : Bk u5 rb 57 #[.pointer (some ⟨s0, 0, none⟩), .bool ae, .bool ao, .int .i64 am, .pointer (some ⟨s1, 0, none⟩), .bool false, .bool false, .int .i64 (N : Int), .bool false] := by rw [← hu5]; exact ((((B4.out.set 4 _).set 5 _).set 6 _).set 7 _).drew
          have k35 : Ke [kb, rb] u2 u5 := ((K3.out.more (by simp)).trans (K4.out.more (by simp))).trans (k5.more (by simp))
          have hb2 : b = false := by rw [← HBE.out]; unfold enO; dsimp only; have h7 := HND.out; simp
          have hp2 := HP2.out
          have hnn : (M : Int) + (T : Int) = (N : Int) := by have := HN.out; omega
          rw [hb2, hnn] at hp2
          rw [hb2]
          try simp only [Bool.or_false, Bool.or_true, Bool.false_or, Bool.true_or] at hp2
          have rf := RF2.out.ke k35 (by simp)
          have h45 := HL.out
          have hkl := HKL.out
          have kH : Ke H u u5 := by
            have k02 : Ke H u u2 := (K1.out.more (by simp)).trans (J.out.2.2.more (fun y hy => by rw [List.mem_singleton.1 hy]; exact h45.2.2.1.2.2))
            refine ⟨k35.os.trans k02.os, k35.tape.trans k02.tape, k35.output.trans k02.output, Nat.le_trans k02.size k35.size, fun i hi hn => ?_⟩
            rw [k35.block i (Nat.lt_of_lt_of_le hi k02.size) (fun hm => ?_)]
            · exact k02.block i hi hn
            · rcases List.mem_cons.1 hm with e | e
              · omega
              · rw [List.mem_singleton.1 e] at hn; exact hn h45.2.2.1.1
          have ja : Rs u5 s1 m (bq.drop T) A4 c4 := by
            have h9 := (JRD.out.ke k35 (by simp)).less (L' := List.range (s1 + 1)) (fun y hy => by simp at hy ⊢; omega)
            exact ⟨J.out.2.1.bk.ke k35 (by simp; omega), h9, J.out.2.1.cap, J.out.2.1.max, J.out.2.1.nil_, J.out.2.1.fit, J.out.2.1.most⟩
          have jb : Rs u5 s0 m aq A0 c0 := by
            have h9 := (RRD.out.ke k35 (by simp)).less (L' := List.range (s0 + 1)) (fun y hy => by simp at hy ⊢; omega)
            exact ⟨R2.out.bk.ke k35 (by simp; omega), h9, R2.out.cap, R2.out.max, R2.out.nil_, R2.out.fit, R2.out.most⟩
          have rfH : Rf u5 [rb] A2 l := rf.less (fun y hy => by simp at hy ⊢; omega)
          have sp : Sp u u5 H (blkA A4 ++ H) := ⟨kH, fun y hy => by
            rcases List.mem_append.1 hy with e | e
            · obtain ⟨a, ha, e⟩ := mem_blkA.1 e
              exact .inr (by rw [← e]; exact Nat.le_trans K1.out.size (JF.out a ha).1)
            · exact .inl e⟩
          have hz3 : ∀ y ∈ blkA A4 ++ H, y < u5.heap.size := fun y hy => by
            rcases List.mem_append.1 hy with e | e
            · obtain ⟨a, ha, e⟩ := mem_blkA.1 e
              rw [← e]; exact Nat.lt_of_lt_of_le (JF.out a ha).2 k35.size
            · exact Nat.lt_of_lt_of_le (HD.out.hi y e) kH.size
          have he3 : (rb ∈ blkA A4 ++ H ∧ s0 ∈ blkA A4 ++ H ∧ s1 ∈ blkA A4 ++ H) := ⟨List.mem_append_right _ h45.2.2.1.1, List.mem_append_right _ h45.2.2.1.2.1, List.mem_append_right _ h45.2.2.1.2.2⟩
          have hA4 : ∀ a, A4 = some a → a.block ∈ blkA A4 ++ H := fun a ha => List.mem_append_left _ (mem_blkA.2 ⟨a, ha, rfl⟩)
          have hAo : ∀ a, A0 = some a → a.block ∈ blkA A4 ++ H := fun a ha => List.mem_append_right _ (h45.2.2.2.1 a ha)
          subst hp2
          have hfin := HD.out.turn (p' := ⟨⟨aq, ae, ao, am⟩, ⟨bq.drop T, false, false, N⟩, false⟩) sp ⟨he3, hAo, hA4⟩ hz3 b5 jb ja h45.1 h45.2.1
          first | exact ⟨blkA A4 ++ H, A2, c2, rfl, rfH, hfin, sp⟩ | exact ⟨rfl, blkA A4 ++ H, A2, c2, rfH, hfin, sp⟩
      | true =>
        by_cases hz : d = 0
        · have z1 : ((d : Int) == 0) = true := by simp; omega
          have z2 : (d == 0) = true := by simp [hz]
          have HZ := Lib.hid hz
          clear hz
          cases bo with
          | true =>
            obtain ⟨u4, hu4⟩ : ∃ u4, u3.setCell ⟨kb, 2, none⟩ (.bool true) = u4 := ⟨_, rfl⟩
            have KB4 := Lib.hid (show Bk u4 kb 54 #[.pointer (some ⟨s1, 0, none⟩), .bool true, .bool true, .int .i64 (N : Int)] by rw [← hu4]; exact KB3.out.set 2 _)
            have K4 := Lib.hid (show Ke [kb] u3 u4 by rw [← hu4]; exact (Ke.refl [kb] u3).set (p := ⟨kb, 2, none⟩) (by simp) _)
            go_upto_region 8 with fail
            try rw [hu4]
            clear hu4 r0 e0 e1 e2 g2
            have B4 := Lib.hid (B2.out.ke (K3.out.trans K4.out) (by have := HKB.out; simp; omega))
            have e0 := KB4.out.cell 0
            have e1 := KB4.out.cell 1
            have e2 := KB4.out.cell 2
            have e3 := KB4.out.cell 3
            have d4 := B4.out.cell 4
            have d5 := B4.out.cell 5
            have d6 := B4.out.cell 6
            have d7 := B4.out.cell 7
            have f4 := B4.out.frozen 4
            have f5 := B4.out.frozen 5
            have f6 := B4.out.frozen 6
            have f7 := B4.out.frozen 7
            simp only [List.getElem?_toArray, List.getElem?_cons_zero, List.getElem?_cons_succ] at e0 e1 e2 e3 d4 d5 d6 d7
            go_region
            clear e0 e1 e2 e3 d4 f4 d5 f5 d6 f6 d7 f7
            go_wp2
            go_ret2
            obtain ⟨u5, hu5⟩ : ∃ u5, ((((u4.setCell ⟨rb, 4, none⟩ (.pointer (some ⟨s1, 0, none⟩))).setCell ⟨rb, 5, none⟩ (.bool true)).setCell ⟨rb, 6, none⟩ (.bool true)).setCell ⟨rb, 7, none⟩ (.int .i64 (N : Int))).drew = u5 := ⟨_, rfl⟩
            try rw [hu5]
            have k5 : Ke [rb] u4 u5 := by rw [← hu5]; exact (((((Ke.refl [rb] u4).set (p := ⟨rb, 4, none⟩) (by simp) _).set (p := ⟨rb, 5, none⟩) (by simp) _).set (p := ⟨rb, 6, none⟩) (by simp) _).set (p := ⟨rb, 7, none⟩) (by simp) _).drew
            have b5 : Bk u5 rb 57 #[.pointer (some ⟨s0, 0, none⟩), .bool ae, .bool ao, .int .i64 am, .pointer (some ⟨s1, 0, none⟩), .bool true, .bool true, .int .i64 (N : Int), .bool false] := by rw [← hu5]; exact ((((B4.out.set 4 _).set 5 _).set 6 _).set 7 _).drew
            have k35 : Ke [kb, rb] u2 u5 := ((K3.out.more (by simp)).trans (K4.out.more (by simp))).trans (k5.more (by simp))
            have hb2 : b = false := by rw [← HBE.out]; unfold enO; dsimp only; have h7 := HND.out; have h8 := HZ.out; rw [show decide (bq.length = T) = true from by rw [h7.1]; exact decide_eq_true (by omega)]; rfl
            have hp2 := HP2.out
            have hnn : (M : Int) + (T : Int) = (N : Int) := by have := HN.out; omega
            rw [hb2, hnn] at hp2
            rw [hb2]
            try simp only [Bool.or_false, Bool.or_true, Bool.false_or, Bool.true_or] at hp2
            have rf := RF2.out.ke k35 (by simp)
            have h45 := HL.out
            have hkl := HKL.out
            have kH : Ke H u u5 := by
              have k02 : Ke H u u2 := (K1.out.more (by simp)).trans (J.out.2.2.more (fun y hy => by rw [List.mem_singleton.1 hy]; exact h45.2.2.1.2.2))
              refine ⟨k35.os.trans k02.os, k35.tape.trans k02.tape, k35.output.trans k02.output, Nat.le_trans k02.size k35.size, fun i hi hn => ?_⟩
              rw [k35.block i (Nat.lt_of_lt_of_le hi k02.size) (fun hm => ?_)]
              · exact k02.block i hi hn
              · rcases List.mem_cons.1 hm with e | e
                · omega
                · rw [List.mem_singleton.1 e] at hn; exact hn h45.2.2.1.1
            have ja : Rs u5 s1 m (bq.drop T) A4 c4 := by
              have h9 := (JRD.out.ke k35 (by simp)).less (L' := List.range (s1 + 1)) (fun y hy => by simp at hy ⊢; omega)
              exact ⟨J.out.2.1.bk.ke k35 (by simp; omega), h9, J.out.2.1.cap, J.out.2.1.max, J.out.2.1.nil_, J.out.2.1.fit, J.out.2.1.most⟩
            have jb : Rs u5 s0 m aq A0 c0 := by
              have h9 := (RRD.out.ke k35 (by simp)).less (L' := List.range (s0 + 1)) (fun y hy => by simp at hy ⊢; omega)
              exact ⟨R2.out.bk.ke k35 (by simp; omega), h9, R2.out.cap, R2.out.max, R2.out.nil_, R2.out.fit, R2.out.most⟩
            have rfH : Rf u5 [rb] A2 l := rf.less (fun y hy => by simp at hy ⊢; omega)
            have sp : Sp u u5 H (blkA A4 ++ H) := ⟨kH, fun y hy => by
              rcases List.mem_append.1 hy with e | e
              · obtain ⟨a, ha, e⟩ := mem_blkA.1 e
                exact .inr (by rw [← e]; exact Nat.le_trans K1.out.size (JF.out a ha).1)
              · exact .inl e⟩
            have hz3 : ∀ y ∈ blkA A4 ++ H, y < u5.heap.size := fun y hy => by
              rcases List.mem_append.1 hy with e | e
              · obtain ⟨a, ha, e⟩ := mem_blkA.1 e
                rw [← e]; exact Nat.lt_of_lt_of_le (JF.out a ha).2 k35.size
              · exact Nat.lt_of_lt_of_le (HD.out.hi y e) kH.size
            have he3 : (rb ∈ blkA A4 ++ H ∧ s0 ∈ blkA A4 ++ H ∧ s1 ∈ blkA A4 ++ H) := ⟨List.mem_append_right _ h45.2.2.1.1, List.mem_append_right _ h45.2.2.1.2.1, List.mem_append_right _ h45.2.2.1.2.2⟩
            have hA4 : ∀ a, A4 = some a → a.block ∈ blkA A4 ++ H := fun a ha => List.mem_append_left _ (mem_blkA.2 ⟨a, ha, rfl⟩)
            have hAo : ∀ a, A0 = some a → a.block ∈ blkA A4 ++ H := fun a ha => List.mem_append_right _ (h45.2.2.2.1 a ha)
            subst hp2
            have hfin := HD.out.turn (p' := ⟨⟨aq, ae, ao, am⟩, ⟨bq.drop T, true, true, N⟩, false⟩) sp ⟨he3, hAo, hA4⟩ hz3 b5 jb ja h45.1 h45.2.1
            first | exact ⟨blkA A4 ++ H, A2, c2, rfl, rfH, hfin, sp⟩ | exact ⟨rfl, blkA A4 ++ H, A2, c2, rfH, hfin, sp⟩
          | false =>
            obtain ⟨u4, hu4⟩ : ∃ u4, u3.setCell ⟨kb, 2, none⟩ (.bool true) = u4 := ⟨_, rfl⟩
            have KB4 := Lib.hid (show Bk u4 kb 54 #[.pointer (some ⟨s1, 0, none⟩), .bool true, .bool true, .int .i64 (N : Int)] by rw [← hu4]; exact KB3.out.set 2 _)
            have K4 := Lib.hid (show Ke [kb] u3 u4 by rw [← hu4]; exact (Ke.refl [kb] u3).set (p := ⟨kb, 2, none⟩) (by simp) _)
            go_upto_region 8 with fail
            try rw [hu4]
            clear hu4 r0 e0 e1 e2 g2
            have B4 := Lib.hid (B2.out.ke (K3.out.trans K4.out) (by have := HKB.out; simp; omega))
            have e0 := KB4.out.cell 0
            have e1 := KB4.out.cell 1
            have e2 := KB4.out.cell 2
            have e3 := KB4.out.cell 3
            have d4 := B4.out.cell 4
            have d5 := B4.out.cell 5
            have d6 := B4.out.cell 6
            have d7 := B4.out.cell 7
            have f4 := B4.out.frozen 4
            have f5 := B4.out.frozen 5
            have f6 := B4.out.frozen 6
            have f7 := B4.out.frozen 7
            simp only [List.getElem?_toArray, List.getElem?_cons_zero, List.getElem?_cons_succ] at e0 e1 e2 e3 d4 d5 d6 d7
            go_region
            clear e0 e1 e2 e3 d4 f4 d5 f5 d6 f6 d7 f7
            go_wp2
            go_ret2
            obtain ⟨u5, hu5⟩ : ∃ u5, ((((u4.setCell ⟨rb, 4, none⟩ (.pointer (some ⟨s1, 0, none⟩))).setCell ⟨rb, 5, none⟩ (.bool true)).setCell ⟨rb, 6, none⟩ (.bool true)).setCell ⟨rb, 7, none⟩ (.int .i64 (N : Int))).drew = u5 := ⟨_, rfl⟩
            try rw [hu5]
            have k5 : Ke [rb] u4 u5 := by rw [← hu5]; exact (((((Ke.refl [rb] u4).set (p := ⟨rb, 4, none⟩) (by simp) _).set (p := ⟨rb, 5, none⟩) (by simp) _).set (p := ⟨rb, 6, none⟩) (by simp) _).set (p := ⟨rb, 7, none⟩) (by simp) _).drew
            have b5 : Bk u5 rb 57 #[.pointer (some ⟨s0, 0, none⟩), .bool ae, .bool ao, .int .i64 am, .pointer (some ⟨s1, 0, none⟩), .bool true, .bool true, .int .i64 (N : Int), .bool false] := by rw [← hu5]; exact ((((B4.out.set 4 _).set 5 _).set 6 _).set 7 _).drew
            have k35 : Ke [kb, rb] u2 u5 := ((K3.out.more (by simp)).trans (K4.out.more (by simp))).trans (k5.more (by simp))
            have hb2 : b = true := by rw [← HBE.out]; unfold enO; dsimp only; have h7 := HND.out; have h8 := HZ.out; rw [show decide (bq.length = T) = true from by rw [h7.1]; exact decide_eq_true (by omega)]; rfl
            have hp2 := HP2.out
            have hnn : (M : Int) + (T : Int) = (N : Int) := by have := HN.out; omega
            rw [hb2, hnn] at hp2
            rw [hb2]
            try simp only [Bool.or_false, Bool.or_true, Bool.false_or, Bool.true_or] at hp2
            have rf := RF2.out.ke k35 (by simp)
            have h45 := HL.out
            have hkl := HKL.out
            have kH : Ke H u u5 := by
              have k02 : Ke H u u2 := (K1.out.more (by simp)).trans (J.out.2.2.more (fun y hy => by rw [List.mem_singleton.1 hy]; exact h45.2.2.1.2.2))
              refine ⟨k35.os.trans k02.os, k35.tape.trans k02.tape, k35.output.trans k02.output, Nat.le_trans k02.size k35.size, fun i hi hn => ?_⟩
              rw [k35.block i (Nat.lt_of_lt_of_le hi k02.size) (fun hm => ?_)]
              · exact k02.block i hi hn
              · rcases List.mem_cons.1 hm with e | e
                · omega
                · rw [List.mem_singleton.1 e] at hn; exact hn h45.2.2.1.1
            have ja : Rs u5 s1 m (bq.drop T) A4 c4 := by
              have h9 := (JRD.out.ke k35 (by simp)).less (L' := List.range (s1 + 1)) (fun y hy => by simp at hy ⊢; omega)
              exact ⟨J.out.2.1.bk.ke k35 (by simp; omega), h9, J.out.2.1.cap, J.out.2.1.max, J.out.2.1.nil_, J.out.2.1.fit, J.out.2.1.most⟩
            have jb : Rs u5 s0 m aq A0 c0 := by
              have h9 := (RRD.out.ke k35 (by simp)).less (L' := List.range (s0 + 1)) (fun y hy => by simp at hy ⊢; omega)
              exact ⟨R2.out.bk.ke k35 (by simp; omega), h9, R2.out.cap, R2.out.max, R2.out.nil_, R2.out.fit, R2.out.most⟩
            have rfH : Rf u5 [rb] A2 l := rf.less (fun y hy => by simp at hy ⊢; omega)
            have sp : Sp u u5 H (blkA A4 ++ H) := ⟨kH, fun y hy => by
              rcases List.mem_append.1 hy with e | e
              · obtain ⟨a, ha, e⟩ := mem_blkA.1 e
                exact .inr (by rw [← e]; exact Nat.le_trans K1.out.size (JF.out a ha).1)
              · exact .inl e⟩
            have hz3 : ∀ y ∈ blkA A4 ++ H, y < u5.heap.size := fun y hy => by
              rcases List.mem_append.1 hy with e | e
              · obtain ⟨a, ha, e⟩ := mem_blkA.1 e
                rw [← e]; exact Nat.lt_of_lt_of_le (JF.out a ha).2 k35.size
              · exact Nat.lt_of_lt_of_le (HD.out.hi y e) kH.size
            have he3 : (rb ∈ blkA A4 ++ H ∧ s0 ∈ blkA A4 ++ H ∧ s1 ∈ blkA A4 ++ H) := ⟨List.mem_append_right _ h45.2.2.1.1, List.mem_append_right _ h45.2.2.1.2.1, List.mem_append_right _ h45.2.2.1.2.2⟩
            have hA4 : ∀ a, A4 = some a → a.block ∈ blkA A4 ++ H := fun a ha => List.mem_append_left _ (mem_blkA.2 ⟨a, ha, rfl⟩)
            have hAo : ∀ a, A0 = some a → a.block ∈ blkA A4 ++ H := fun a ha => List.mem_append_right _ (h45.2.2.2.1 a ha)
            subst hp2
            have hfin := HD.out.turn (p' := ⟨⟨aq, ae, ao, am⟩, ⟨bq.drop T, true, true, N⟩, false⟩) sp ⟨he3, hAo, hA4⟩ hz3 b5 jb ja h45.1 h45.2.1
            first | exact ⟨blkA A4 ++ H, A2, c2, rfl, rfH, hfin, sp⟩ | exact ⟨rfl, blkA A4 ++ H, A2, c2, rfH, hfin, sp⟩
        · have z1 : ((d : Int) == 0) = false := by simp; omega
          have z2 : (d == 0) = false := by simp [hz]
          have HZ := Lib.hid hz
          clear hz
          cases bo with
          | true =>
            obtain ⟨u4, hu4⟩ : ∃ u4, u3.setCell ⟨kb, 2, none⟩ (.bool true) = u4 := ⟨_, rfl⟩
            have KB4 := Lib.hid (show Bk u4 kb 54 #[.pointer (some ⟨s1, 0, none⟩), .bool true, .bool true, .int .i64 (N : Int)] by rw [← hu4]; exact KB3.out.set 2 _)
            have K4 := Lib.hid (show Ke [kb] u3 u4 by rw [← hu4]; exact (Ke.refl [kb] u3).set (p := ⟨kb, 2, none⟩) (by simp) _)
            go_upto_region 8 with fail
            try rw [hu4]
            clear hu4 r0 e0 e1 e2 g2
            have B4 := Lib.hid (B2.out.ke (K3.out.trans K4.out) (by have := HKB.out; simp; omega))
            have e0 := KB4.out.cell 0
            have e1 := KB4.out.cell 1
            have e2 := KB4.out.cell 2
            have e3 := KB4.out.cell 3
            have d4 := B4.out.cell 4
            have d5 := B4.out.cell 5
            have d6 := B4.out.cell 6
            have d7 := B4.out.cell 7
            have f4 := B4.out.frozen 4
            have f5 := B4.out.frozen 5
            have f6 := B4.out.frozen 6
            have f7 := B4.out.frozen 7
            simp only [List.getElem?_toArray, List.getElem?_cons_zero, List.getElem?_cons_succ] at e0 e1 e2 e3 d4 d5 d6 d7
            go_region
            clear e0 e1 e2 e3 d4 f4 d5 f5 d6 f6 d7 f7
            go_wp2
            go_ret2
            obtain ⟨u5, hu5⟩ : ∃ u5, ((((u4.setCell ⟨rb, 4, none⟩ (.pointer (some ⟨s1, 0, none⟩))).setCell ⟨rb, 5, none⟩ (.bool true)).setCell ⟨rb, 6, none⟩ (.bool true)).setCell ⟨rb, 7, none⟩ (.int .i64 (N : Int))).drew = u5 := ⟨_, rfl⟩
            try rw [hu5]
            have k5 : Ke [rb] u4 u5 := by rw [← hu5]; exact (((((Ke.refl [rb] u4).set (p := ⟨rb, 4, none⟩) (by simp) _).set (p := ⟨rb, 5, none⟩) (by simp) _).set (p := ⟨rb, 6, none⟩) (by simp) _).set (p := ⟨rb, 7, none⟩) (by simp) _).drew
            have b5 : Bk u5 rb 57 #[.pointer (some ⟨s0, 0, none⟩), .bool ae, .bool ao, .int .i64 am, .pointer (some ⟨s1, 0, none⟩), .bool true, .bool true, .int .i64 (N : Int), .bool false] := by rw [← hu5]; exact ((((B4.out.set 4 _).set 5 _).set 6 _).set 7 _).drew
            have k35 : Ke [kb, rb] u2 u5 := ((K3.out.more (by simp)).trans (K4.out.more (by simp))).trans (k5.more (by simp))
            have hb2 : b = false := by rw [← HBE.out]; unfold enO; dsimp only; have h7 := HND.out; have h8 := HZ.out; rw [show decide (bq.length = T) = false from by rw [h7.1]; exact decide_eq_false (by omega)]; rfl
            have hp2 := HP2.out
            have hnn : (M : Int) + (T : Int) = (N : Int) := by have := HN.out; omega
            rw [hb2, hnn] at hp2
            rw [hb2]
            try simp only [Bool.or_false, Bool.or_true, Bool.false_or, Bool.true_or] at hp2
            have rf := RF2.out.ke k35 (by simp)
            have h45 := HL.out
            have hkl := HKL.out
            have kH : Ke H u u5 := by
              have k02 : Ke H u u2 := (K1.out.more (by simp)).trans (J.out.2.2.more (fun y hy => by rw [List.mem_singleton.1 hy]; exact h45.2.2.1.2.2))
              refine ⟨k35.os.trans k02.os, k35.tape.trans k02.tape, k35.output.trans k02.output, Nat.le_trans k02.size k35.size, fun i hi hn => ?_⟩
              rw [k35.block i (Nat.lt_of_lt_of_le hi k02.size) (fun hm => ?_)]
              · exact k02.block i hi hn
              · rcases List.mem_cons.1 hm with e | e
                · omega
                · rw [List.mem_singleton.1 e] at hn; exact hn h45.2.2.1.1
            have ja : Rs u5 s1 m (bq.drop T) A4 c4 := by
              have h9 := (JRD.out.ke k35 (by simp)).less (L' := List.range (s1 + 1)) (fun y hy => by simp at hy ⊢; omega)
              exact ⟨J.out.2.1.bk.ke k35 (by simp; omega), h9, J.out.2.1.cap, J.out.2.1.max, J.out.2.1.nil_, J.out.2.1.fit, J.out.2.1.most⟩
            have jb : Rs u5 s0 m aq A0 c0 := by
              have h9 := (RRD.out.ke k35 (by simp)).less (L' := List.range (s0 + 1)) (fun y hy => by simp at hy ⊢; omega)
              exact ⟨R2.out.bk.ke k35 (by simp; omega), h9, R2.out.cap, R2.out.max, R2.out.nil_, R2.out.fit, R2.out.most⟩
            have rfH : Rf u5 [rb] A2 l := rf.less (fun y hy => by simp at hy ⊢; omega)
            have sp : Sp u u5 H (blkA A4 ++ H) := ⟨kH, fun y hy => by
              rcases List.mem_append.1 hy with e | e
              · obtain ⟨a, ha, e⟩ := mem_blkA.1 e
                exact .inr (by rw [← e]; exact Nat.le_trans K1.out.size (JF.out a ha).1)
              · exact .inl e⟩
            have hz3 : ∀ y ∈ blkA A4 ++ H, y < u5.heap.size := fun y hy => by
              rcases List.mem_append.1 hy with e | e
              · obtain ⟨a, ha, e⟩ := mem_blkA.1 e
                rw [← e]; exact Nat.lt_of_lt_of_le (JF.out a ha).2 k35.size
              · exact Nat.lt_of_lt_of_le (HD.out.hi y e) kH.size
            have he3 : (rb ∈ blkA A4 ++ H ∧ s0 ∈ blkA A4 ++ H ∧ s1 ∈ blkA A4 ++ H) := ⟨List.mem_append_right _ h45.2.2.1.1, List.mem_append_right _ h45.2.2.1.2.1, List.mem_append_right _ h45.2.2.1.2.2⟩
            have hA4 : ∀ a, A4 = some a → a.block ∈ blkA A4 ++ H := fun a ha => List.mem_append_left _ (mem_blkA.2 ⟨a, ha, rfl⟩)
            have hAo : ∀ a, A0 = some a → a.block ∈ blkA A4 ++ H := fun a ha => List.mem_append_right _ (h45.2.2.2.1 a ha)
            subst hp2
            have hfin := HD.out.turn (p' := ⟨⟨aq, ae, ao, am⟩, ⟨bq.drop T, true, true, N⟩, false⟩) sp ⟨he3, hAo, hA4⟩ hz3 b5 jb ja h45.1 h45.2.1
            first | exact ⟨blkA A4 ++ H, A2, c2, rfl, rfH, hfin, sp⟩ | exact ⟨rfl, blkA A4 ++ H, A2, c2, rfH, hfin, sp⟩
          | false =>
            obtain ⟨u4, hu4⟩ : ∃ u4, u3.setCell ⟨kb, 2, none⟩ (.bool false) = u4 := ⟨_, rfl⟩
            have KB4 := Lib.hid (show Bk u4 kb 54 #[.pointer (some ⟨s1, 0, none⟩), .bool true, .bool false, .int .i64 (N : Int)] by rw [← hu4]; exact KB3.out.set 2 _)
            have K4 := Lib.hid (show Ke [kb] u3 u4 by rw [← hu4]; exact (Ke.refl [kb] u3).set (p := ⟨kb, 2, none⟩) (by simp) _)
            go_upto_region 8 with fail
            try rw [hu4]
            clear hu4 r0 e0 e1 e2 g2
            have B4 := Lib.hid (B2.out.ke (K3.out.trans K4.out) (by have := HKB.out; simp; omega))
            have e0 := KB4.out.cell 0
            have e1 := KB4.out.cell 1
            have e2 := KB4.out.cell 2
            have e3 := KB4.out.cell 3
            have d4 := B4.out.cell 4
            have d5 := B4.out.cell 5
            have d6 := B4.out.cell 6
            have d7 := B4.out.cell 7
            have f4 := B4.out.frozen 4
            have f5 := B4.out.frozen 5
            have f6 := B4.out.frozen 6
            have f7 := B4.out.frozen 7
            simp only [List.getElem?_toArray, List.getElem?_cons_zero, List.getElem?_cons_succ] at e0 e1 e2 e3 d4 d5 d6 d7
            go_region
            clear e0 e1 e2 e3 d4 f4 d5 f5 d6 f6 d7 f7
            go_wp2
            go_ret2
            obtain ⟨u5, hu5⟩ : ∃ u5, ((((u4.setCell ⟨rb, 4, none⟩ (.pointer (some ⟨s1, 0, none⟩))).setCell ⟨rb, 5, none⟩ (.bool true)).setCell ⟨rb, 6, none⟩ (.bool false)).setCell ⟨rb, 7, none⟩ (.int .i64 (N : Int))).drew = u5 := ⟨_, rfl⟩
            try rw [hu5]
            have k5 : Ke [rb] u4 u5 := by rw [← hu5]; exact (((((Ke.refl [rb] u4).set (p := ⟨rb, 4, none⟩) (by simp) _).set (p := ⟨rb, 5, none⟩) (by simp) _).set (p := ⟨rb, 6, none⟩) (by simp) _).set (p := ⟨rb, 7, none⟩) (by simp) _).drew
            have b5 : Bk u5 rb 57 #[.pointer (some ⟨s0, 0, none⟩), .bool ae, .bool ao, .int .i64 am, .pointer (some ⟨s1, 0, none⟩), .bool true, .bool false, .int .i64 (N : Int), .bool false] := by rw [← hu5]; exact ((((B4.out.set 4 _).set 5 _).set 6 _).set 7 _).drew
            have k35 : Ke [kb, rb] u2 u5 := ((K3.out.more (by simp)).trans (K4.out.more (by simp))).trans (k5.more (by simp))
            have hb2 : b = false := by rw [← HBE.out]; unfold enO; dsimp only; have h7 := HND.out; have h8 := HZ.out; rw [show decide (bq.length = T) = false from by rw [h7.1]; exact decide_eq_false (by omega)]; rfl
            have hp2 := HP2.out
            have hnn : (M : Int) + (T : Int) = (N : Int) := by have := HN.out; omega
            rw [hb2, hnn] at hp2
            rw [hb2]
            try simp only [Bool.or_false, Bool.or_true, Bool.false_or, Bool.true_or] at hp2
            have rf := RF2.out.ke k35 (by simp)
            have h45 := HL.out
            have hkl := HKL.out
            have kH : Ke H u u5 := by
              have k02 : Ke H u u2 := (K1.out.more (by simp)).trans (J.out.2.2.more (fun y hy => by rw [List.mem_singleton.1 hy]; exact h45.2.2.1.2.2))
              refine ⟨k35.os.trans k02.os, k35.tape.trans k02.tape, k35.output.trans k02.output, Nat.le_trans k02.size k35.size, fun i hi hn => ?_⟩
              rw [k35.block i (Nat.lt_of_lt_of_le hi k02.size) (fun hm => ?_)]
              · exact k02.block i hi hn
              · rcases List.mem_cons.1 hm with e | e
                · omega
                · rw [List.mem_singleton.1 e] at hn; exact hn h45.2.2.1.1
            have ja : Rs u5 s1 m (bq.drop T) A4 c4 := by
              have h9 := (JRD.out.ke k35 (by simp)).less (L' := List.range (s1 + 1)) (fun y hy => by simp at hy ⊢; omega)
              exact ⟨J.out.2.1.bk.ke k35 (by simp; omega), h9, J.out.2.1.cap, J.out.2.1.max, J.out.2.1.nil_, J.out.2.1.fit, J.out.2.1.most⟩
            have jb : Rs u5 s0 m aq A0 c0 := by
              have h9 := (RRD.out.ke k35 (by simp)).less (L' := List.range (s0 + 1)) (fun y hy => by simp at hy ⊢; omega)
              exact ⟨R2.out.bk.ke k35 (by simp; omega), h9, R2.out.cap, R2.out.max, R2.out.nil_, R2.out.fit, R2.out.most⟩
            have rfH : Rf u5 [rb] A2 l := rf.less (fun y hy => by simp at hy ⊢; omega)
            have sp : Sp u u5 H (blkA A4 ++ H) := ⟨kH, fun y hy => by
              rcases List.mem_append.1 hy with e | e
              · obtain ⟨a, ha, e⟩ := mem_blkA.1 e
                exact .inr (by rw [← e]; exact Nat.le_trans K1.out.size (JF.out a ha).1)
              · exact .inl e⟩
            have hz3 : ∀ y ∈ blkA A4 ++ H, y < u5.heap.size := fun y hy => by
              rcases List.mem_append.1 hy with e | e
              · obtain ⟨a, ha, e⟩ := mem_blkA.1 e
                rw [← e]; exact Nat.lt_of_lt_of_le (JF.out a ha).2 k35.size
              · exact Nat.lt_of_lt_of_le (HD.out.hi y e) kH.size
            have he3 : (rb ∈ blkA A4 ++ H ∧ s0 ∈ blkA A4 ++ H ∧ s1 ∈ blkA A4 ++ H) := ⟨List.mem_append_right _ h45.2.2.1.1, List.mem_append_right _ h45.2.2.1.2.1, List.mem_append_right _ h45.2.2.1.2.2⟩
            have hA4 : ∀ a, A4 = some a → a.block ∈ blkA A4 ++ H := fun a ha => List.mem_append_left _ (mem_blkA.2 ⟨a, ha, rfl⟩)
            have hAo : ∀ a, A0 = some a → a.block ∈ blkA A4 ++ H := fun a ha => List.mem_append_right _ (h45.2.2.2.1 a ha)
            subst hp2
            have hfin := HD.out.turn (p' := ⟨⟨aq, ae, ao, am⟩, ⟨bq.drop T, true, false, N⟩, false⟩) sp ⟨he3, hAo, hA4⟩ hz3 b5 jb ja h45.1 h45.2.1
            first | exact ⟨blkA A4 ++ H, A2, c2, rfl, rfH, hfin, sp⟩ | exact ⟨rfl, blkA A4 ++ H, A2, c2, rfH, hfin, sp⟩
  · by_cases e1 : s = 1
    · subst e1
      have HS := Lib.hid rside_1
      cases br with
      | true =>
        have e4 : [] = l := congrArg (fun r => r.1.1) hE
        have e5 : false = b := congrArg (fun r => r.1.2) hE
        have e3 := congrArg (fun r => r.2) hE
        dsimp only at e3
        subst e4; subst e5
        have HT := Lib.hid ht
        have HP2 := Lib.hid e3
        clear hE ht e3
        go_enter Try.func15, Try.ntmps15
        go_wp2_with (go_at_call 34; (with_reducible refine (HS.out _).mono ?_); rintro e w2 ⟨rfl, hw⟩; rw [hw]; clear hw)
        go_ret2
        have ht := HT.out
        simp at ht
        subst ht
        have hp2 := HP2.out
        first | exact ⟨H, none, 0, rfl, .inl rfl, by rw [← hp2]; exact HD.out, Sp.refl _ _⟩ | exact ⟨rfl, H, none, 0, .inl rfl, by rw [← hp2]; exact HD.out, Sp.refl _ _⟩ | exact ⟨H, rfl, none, 0, .inl rfl, by rw [← hp2]; exact HD.out, Sp.refl _ _⟩
      | false =>
        have e4 : aq.take (takeM x aq.length) = l := congrArg (fun r => r.1.1) hE
        have e5 : enO ⟨aq, ae, ao, am⟩ (takeM x aq.length) = b := congrArg (fun r => r.1.2) hE
        have e3 : (⟨⟨aq.drop (takeM x aq.length), ae, ao || enO ⟨aq, ae, ao, am⟩ (takeM x aq.length), am + (takeM x aq.length : Nat)⟩, ⟨bq, be, bo, bm⟩, false⟩ : Pu) = p2 := congrArg (fun r => r.2) hE
        obtain ⟨n, hn⟩ : ∃ n, aq.length = n := ⟨_, rfl⟩
        rw [hn] at e3 e4 e5 hf0
        obtain ⟨T, hT⟩ : ∃ T, takeM x n = T := ⟨_, rfl⟩
        rw [hT] at e3 e4 e5
        have hTn : T ≤ n := by rw [← hT]; exact takeM_le2 x n
        have hTt : T = t := by rw [← ht, ← e4, List.length_take, hn]; omega
        subst hTt
        rw [e5] at e3
        obtain ⟨d, hd⟩ : ∃ d, n - T = d := ⟨_, rfl⟩
        have hdl : (aq.drop T).length = d := by rw [List.length_drop, hn]; exact hd
        have HTK := Lib.hid (fun v (hr : Rs v s0 m aq A0 c0) => rtake_okF s0 m x aq A0 c0 v hr n T hn hT)
        obtain ⟨M, hM⟩ := Int.eq_ofNat_of_zero_le hfa.1
        subst hM
        obtain ⟨N, hN⟩ : ∃ N, M + T = N := ⟨_, rfl⟩
        have hwm := (iwrap ((M : Int) + (T : Int)) N (by omega) (by omega)).1
        have HN := Lib.hid hN
        have HP2 := Lib.hid e3
        have HBE := Lib.hid e5
        have HLT := Lib.hid e4
        have HDL := Lib.hid hdl
        have HND := Lib.hid (And.intro hn (And.intro hd hTn))
        have hd6 : d ≤ 65536 := by omega
        clear hE e3 e4 e5 ht hn hT hTn hd hdl hfa hfb hf0 hf1 hN
        obtain ⟨kb, hkb⟩ : ∃ kb, u.heap.size = kb := ⟨_, rfl⟩
        go_enter Try.func15, Try.ntmps15
        go_upto_region 4 with (go_at_call 34; (with_reducible refine (HS.out _).mono ?_); rintro e w2 ⟨rfl, hw⟩; rw [hw]; clear hw)
        try rw [hkb]
        obtain ⟨u1, hu1⟩ : ∃ u1, u.alloc (.cells #[.pointer (some ⟨s0, 0, none⟩), .bool ae, .bool ao, .int .i64 (M : Int)] 54) = u1 := ⟨_, rfl⟩
        try rw [hu1]
        have KB1 := Lib.hid (show Bk u1 kb 54 #[.pointer (some ⟨s0, 0, none⟩), .bool ae, .bool ao, .int .i64 (M : Int)] by rw [← hu1, ← hkb]; exact Bk.new _ _ _)
        have K1 := Lib.hid (show Ke [] u u1 by rw [← hu1]; exact (Ke.refl [] u).alloc _)
        have HKB := Lib.hid (show rb ≠ kb ∧ s0 ≠ kb ∧ s1 ≠ kb from ⟨by have := HB.out.lt; omega, by have := HRR.out.1.bk.lt; omega, by have := HRR.out.2.bk.lt; omega⟩)
        have e0 : u1.cell? ⟨kb, 0, none⟩ = some (.pointer (some ⟨s0, 0, none⟩)) := KB1.out.cell 0
        have R1 := Lib.hid (And.intro (HRR.out.1.ke K1.out (by simp)) (HRR.out.2.ke K1.out (by simp)))
        have B1 := Lib.hid (HB.out.ke K1.out (by simp))
        clear hu1 d0 d1 d2 d3 d4 d5 d6 d7 d8
        go_upto_region 5 with (go_at_call 35; (with_reducible refine (HTK.out u1 R1.out.1).mono ?_); rintro e u2 ⟨A2, c2, A4, c4, rfl, j1, j2, j3, j4⟩; have J := Lib.hid (And.intro j1 (And.intro j2 j3)); have JF := Lib.hid j4; clear j1 j2 j3 j4)
        clear e0
        have KB2 := Lib.hid (KB1.out.ke J.out.2.2 (by have := HKB.out; simp; omega))
        have B2 := Lib.hid (B1.out.ke J.out.2.2 (by have h1 := HL.out.1; have h2 := HL.out.2.1; simp; omega))
        have R2 := Lib.hid (show Rs u2 s1 m bq A1 c1 from R1.out.2.ke J.out.2.2 (fun y hy => by rw [List.mem_singleton.1 hy]; exact HL.out.2.1))
        have RF2 := Lib.hid (show Rf u2 (s1 :: s0 :: rb :: kb :: []) A2 l by rw [← HLT.out]; exact ((((J.out.1.rf (L := []) (by simp)).far KB2.out wy_no8).far B2.out (du_no8 (p := ⟨⟨[], ae, ao, M⟩, ⟨[], be, bo, bm⟩, false⟩))).far J.out.2.1.bk ref_no8).far R2.out.bk ref_no8)
        have JRD := Lib.hid ((J.out.2.1.rd.far KB2.out wy_no8).far B2.out (du_no8 (p := ⟨⟨[], ae, ao, M⟩, ⟨[], be, bo, bm⟩, false⟩)))
        have RRD := Lib.hid ((R2.out.rd.far KB2.out wy_no8).far B2.out (du_no8 (p := ⟨⟨[], ae, ao, M⟩, ⟨[], be, bo, bm⟩, false⟩)))
        have e3 : u2.cell? ⟨kb, 3, none⟩ = some (.int .i64 (M : Int)) := KB2.out.cell 3
        have g3 := KB2.out.frozen 3
        obtain ⟨u3, hu3⟩ : ∃ u3, u2.setCell ⟨kb, 3, none⟩ (.int .i64 (N : Int)) = u3 := ⟨_, rfl⟩
        have KB3 := Lib.hid (show Bk u3 kb 54 #[.pointer (some ⟨s0, 0, none⟩), .bool ae, .bool ao, .int .i64 (N : Int)] by rw [← hu3]; exact KB2.out.set 3 _)
        have K3 := Lib.hid (show Ke [kb] u2 u3 by rw [← hu3]; exact (Ke.refl [kb] u2).set (p := ⟨kb, 3, none⟩) (by simp) _)
        go_upto_region 6 with fail
        try rw [hu3]
        clear hu3 e3 g3 hwm
        have hkl : s0 < kb ∧ s1 < kb ∧ rb < kb := ⟨by rw [← hkb]; exact HRR.out.1.bk.lt, by rw [← hkb]; exact HRR.out.2.bk.lt, by rw [← hkb]; exact HB.out.lt⟩
        have HKL := Lib.hid hkl
        clear hkl
        have K13 := Lib.hid (show Ke [s0, kb] u1 u3 from (J.out.2.2.more (by simp)).trans (K3.out.more (by simp)))
        have JB3 := Lib.hid (J.out.2.1.bk.ke K3.out (by have := HKB.out; simp; omega))
        obtain ⟨r0, -, -⟩ := ref_cells JB3.out
        rw [HDL.out] at r0
        have e0 : u3.cell? ⟨kb, 0, none⟩ = some (.pointer (some ⟨s0, 0, none⟩)) := KB3.out.cell 0
        have e1 : u3.cell? ⟨kb, 1, none⟩ = some (.bool ae) := KB3.out.cell 1
        have e2 : u3.cell? ⟨kb, 2, none⟩ = some (.bool ao) := KB3.out.cell 2
        have g2 := KB3.out.frozen 2
        cases ae with
        | false =>
          cases ao with
          | true =>
            obtain ⟨u4, hu4⟩ : ∃ u4, u3.setCell ⟨kb, 2, none⟩ (.bool true) = u4 := ⟨_, rfl⟩
            have KB4 := Lib.hid (show Bk u4 kb 54 #[.pointer (some ⟨s0, 0, none⟩), .bool false, .bool true, .int .i64 (N : Int)] by rw [← hu4]; exact KB3.out.set 2 _)
            have K4 := Lib.hid (show Ke [kb] u3 u4 by rw [← hu4]; exact (Ke.refl [kb] u3).set (p := ⟨kb, 2, none⟩) (by simp) _)
            go_upto_region 8 with fail
            try rw [hu4]
            clear hu4 r0 e0 e1 e2 g2
            have B4 := Lib.hid (B2.out.ke (K3.out.trans K4.out) (by have := HKB.out; simp; omega))
            have e0 := KB4.out.cell 0
            have e1 := KB4.out.cell 1
            have e2 := KB4.out.cell 2
            have e3 := KB4.out.cell 3
            have d0 := B4.out.cell 0
            have d1 := B4.out.cell 1
            have d2 := B4.out.cell 2
            have d3 := B4.out.cell 3
            have f0 := B4.out.frozen 0
            have f1 := B4.out.frozen 1
            have f2 := B4.out.frozen 2
            have f3 := B4.out.frozen 3
            simp only [List.getElem?_toArray, List.getElem?_cons_zero, List.getElem?_cons_succ] at e0 e1 e2 e3 d0 d1 d2 d3
            go_region
            clear e0 e1 e2 e3 d0 f0 d1 f1 d2 f2 d3 f3
            go_wp2
            go_ret2
            obtain ⟨u5, hu5⟩ : ∃ u5, ((((u4.setCell ⟨rb, 0, none⟩ (.pointer (some ⟨s0, 0, none⟩))).setCell ⟨rb, 1, none⟩ (.bool false)).setCell ⟨rb, 2, none⟩ (.bool true)).setCell ⟨rb, 3, none⟩ (.int .i64 (N : Int))).drew = u5 := ⟨_, rfl⟩
            try rw [hu5]
            have k5 : Ke [rb] u4 u5 := by rw [← hu5]; exact (((((Ke.refl [rb] u4).set (p := ⟨rb, 0, none⟩) (by simp) _).set (p := ⟨rb, 1, none⟩) (by simp) _).set (p := ⟨rb, 2, none⟩) (by simp) _).set (p := ⟨rb, 3, none⟩) (by simp) _).drew
            have b5 : Bk u5 rb 57 #[.pointer (some ⟨s0, 0, none⟩), .bool false, .bool true, .int .i64 (N : Int), .pointer (some ⟨s1, 0, none⟩), .bool be, .bool bo, .int .i64 bm, .bool false] := by rw [← hu5]; exact ((((B4.out.set 0 _).set 1 _).set 2 _).set 3 _).drew
            have k35 : Ke [kb, rb] u2 u5 := ((K3.out.more (by simp)).trans (K4.out.more (by simp))).trans (k5.more (by simp))
            have hb2 : b = false := by rw [← HBE.out]; unfold enO; dsimp only; have h7 := HND.out; simp
            have hp2 := HP2.out
            have hnn : (M : Int) + (T : Int) = (N : Int) := by have := HN.out; omega
            rw [hb2, hnn] at hp2
            rw [hb2]
            try simp only [Bool.or_false, Bool.or_true, Bool.false_or, Bool.true_or] at hp2
            have rf := RF2.out.ke k35 (by simp)
            have h45 := HL.out
            have hkl := HKL.out
            have kH : Ke H u u5 := by
              have k02 : Ke H u u2 := (K1.out.more (by simp)).trans (J.out.2.2.more (fun y hy => by rw [List.mem_singleton.1 hy]; exact h45.2.2.1.2.1))
              refine ⟨k35.os.trans k02.os, k35.tape.trans k02.tape, k35.output.trans k02.output, Nat.le_trans k02.size k35.size, fun i hi hn => ?_⟩
              rw [k35.block i (Nat.lt_of_lt_of_le hi k02.size) (fun hm => ?_)]
              · exact k02.block i hi hn
              · rcases List.mem_cons.1 hm with e | e
                · omega
                · rw [List.mem_singleton.1 e] at hn; exact hn h45.2.2.1.1
            have ja : Rs u5 s0 m (aq.drop T) A4 c4 := by
              have h9 := (JRD.out.ke k35 (by simp)).less (L' := List.range (s0 + 1)) (fun y hy => by simp at hy ⊢; omega)
              exact ⟨J.out.2.1.bk.ke k35 (by simp; omega), h9, J.out.2.1.cap, J.out.2.1.max, J.out.2.1.nil_, J.out.2.1.fit, J.out.2.1.most⟩
            have jb : Rs u5 s1 m bq A1 c1 := by
              have h9 := (RRD.out.ke k35 (by simp)).less (L' := List.range (s1 + 1)) (fun y hy => by simp at hy ⊢; omega)
              exact ⟨R2.out.bk.ke k35 (by simp; omega), h9, R2.out.cap, R2.out.max, R2.out.nil_, R2.out.fit, R2.out.most⟩
            have rfH : Rf u5 [rb] A2 l := rf.less (fun y hy => by simp at hy ⊢; omega)
            have sp : Sp u u5 H (blkA A4 ++ H) := ⟨kH, fun y hy => by
              rcases List.mem_append.1 hy with e | e
              · obtain ⟨a, ha, e⟩ := mem_blkA.1 e
                exact .inr (by rw [← e]; exact Nat.le_trans K1.out.size (JF.out a ha).1)
              · exact .inl e⟩
            have hz3 : ∀ y ∈ blkA A4 ++ H, y < u5.heap.size := fun y hy => by
              rcases List.mem_append.1 hy with e | e
              · obtain ⟨a, ha, e⟩ := mem_blkA.1 e
                rw [← e]; exact Nat.lt_of_lt_of_le (JF.out a ha).2 k35.size
              · exact Nat.lt_of_lt_of_le (HD.out.hi y e) kH.size
            have he3 : (rb ∈ blkA A4 ++ H ∧ s0 ∈ blkA A4 ++ H ∧ s1 ∈ blkA A4 ++ H) := ⟨List.mem_append_right _ h45.2.2.1.1, List.mem_append_right _ h45.2.2.1.2.1, List.mem_append_right _ h45.2.2.1.2.2⟩
            have hA4 : ∀ a, A4 = some a → a.block ∈ blkA A4 ++ H := fun a ha => List.mem_append_left _ (mem_blkA.2 ⟨a, ha, rfl⟩)
            have hAo : ∀ a, A1 = some a → a.block ∈ blkA A4 ++ H := fun a ha => List.mem_append_right _ (h45.2.2.2.2 a ha)
            subst hp2
            have hfin := HD.out.turn (p' := ⟨⟨aq.drop T, false, true, N⟩, ⟨bq, be, bo, bm⟩, false⟩) sp ⟨he3, hA4, hAo⟩ hz3 b5 ja jb h45.1 h45.2.1
            first | exact ⟨blkA A4 ++ H, A2, c2, rfl, rfH, hfin, sp⟩ | exact ⟨rfl, blkA A4 ++ H, A2, c2, rfH, hfin, sp⟩
          | false =>
            obtain ⟨u4, hu4⟩ : ∃ u4, u3.setCell ⟨kb, 2, none⟩ (.bool false) = u4 := ⟨_, rfl⟩
            have KB4 := Lib.hid (show Bk u4 kb 54 #[.pointer (some ⟨s0, 0, none⟩), .bool false, .bool false, .int .i64 (N : Int)] by rw [← hu4]; exact KB3.out.set 2 _)
            have K4 := Lib.hid (show Ke [kb] u3 u4 by rw [← hu4]; exact (Ke.refl [kb] u3).set (p := ⟨kb, 2, none⟩) (by simp) _)
            go_upto_region 8 with fail
            try rw [hu4]
            clear hu4 r0 e0 e1 e2 g2
            have B4 := Lib.hid (B2.out.ke (K3.out.trans K4.out) (by have := HKB.out; simp; omega))
            have e0 := KB4.out.cell 0
            have e1 := KB4.out.cell 1
            have e2 := KB4.out.cell 2
            have e3 := KB4.out.cell 3
            have d0 := B4.out.cell 0
            have d1 := B4.out.cell 1
            have d2 := B4.out.cell 2
            have d3 := B4.out.cell 3
            have f0 := B4.out.frozen 0
            have f1 := B4.out.frozen 1
            have f2 := B4.out.frozen 2
            have f3 := B4.out.frozen 3
            simp only [List.getElem?_toArray, List.getElem?_cons_zero, List.getElem?_cons_succ] at e0 e1 e2 e3 d0 d1 d2 d3
            go_region
            clear e0 e1 e2 e3 d0 f0 d1 f1 d2 f2 d3 f3
            go_wp2
            go_ret2
            obtain ⟨u5, hu5⟩ : ∃ u5, ((((u4.setCell ⟨rb, 0, none⟩ (.pointer (some ⟨s0, 0, none⟩))).setCell ⟨rb, 1, none⟩ (.bool false)).setCell ⟨rb, 2, none⟩ (.bool false)).setCell ⟨rb, 3, none⟩ (.int .i64 (N : Int))).drew = u5 := ⟨_, rfl⟩
            try rw [hu5]
            have k5 : Ke [rb] u4 u5 := by rw [← hu5]; exact (((((Ke.refl [rb] u4).set (p := ⟨rb, 0, none⟩) (by simp) _).set (p := ⟨rb, 1, none⟩) (by simp) _).set (p := ⟨rb, 2, none⟩) (by simp) _).set (p := ⟨rb, 3, none⟩) (by simp) _).drew
            have b5 : Bk u5 rb 57 #[.pointer (some ⟨s0, 0, none⟩), .bool false, .bool false, .int .i64 (N : Int), .pointer (some ⟨s1, 0, none⟩), .bool be, .bool bo, .int .i64 bm, .bool false] := by rw [← hu5]; exact ((((B4.out.set 0 _).set 1 _).set 2 _).set 3 _).drew
            have k35 : Ke [kb, rb] u2 u5 := ((K3.out.more (by simp)).trans (K4.out.more (by simp))).trans (k5.more (by simp))
            have hb2 : b = false := by rw [← HBE.out]; unfold enO; dsimp only; have h7 := HND.out; simp
            have hp2 := HP2.out
            have hnn : (M : Int) + (T : Int) = (N : Int) := by have := HN.out; omega
            rw [hb2, hnn] at hp2
            rw [hb2]
            try simp only [Bool.or_false, Bool.or_true, Bool.false_or, Bool.true_or] at hp2
            have rf := RF2.out.ke k35 (by simp)
            have h45 := HL.out
            have hkl := HKL.out
            have kH : Ke H u u5 := by
              have k02 : Ke H u u2 := (K1.out.more (by simp)).trans (J.out.2.2.more (fun y hy => by rw [List.mem_singleton.1 hy]; exact h45.2.2.1.2.1))
              refine ⟨k35.os.trans k02.os, k35.tape.trans k02.tape, k35.output.trans k02.output, Nat.le_trans k02.size k35.size, fun i hi hn => ?_⟩
              rw [k35.block i (Nat.lt_of_lt_of_le hi k02.size) (fun hm => ?_)]
              · exact k02.block i hi hn
              · rcases List.mem_cons.1 hm with e | e
                · omega
                · rw [List.mem_singleton.1 e] at hn; exact hn h45.2.2.1.1
            have ja : Rs u5 s0 m (aq.drop T) A4 c4 := by
              have h9 := (JRD.out.ke k35 (by simp)).less (L' := List.range (s0 + 1)) (fun y hy => by simp at hy ⊢; omega)
              exact ⟨J.out.2.1.bk.ke k35 (by simp; omega), h9, J.out.2.1.cap, J.out.2.1.max, J.out.2.1.nil_, J.out.2.1.fit, J.out.2.1.most⟩
            have jb : Rs u5 s1 m bq A1 c1 := by
              have h9 := (RRD.out.ke k35 (by simp)).less (L' := List.range (s1 + 1)) (fun y hy => by simp at hy ⊢; omega)
              exact ⟨R2.out.bk.ke k35 (by simp; omega), h9, R2.out.cap, R2.out.max, R2.out.nil_, R2.out.fit, R2.out.most⟩
            have rfH : Rf u5 [rb] A2 l := rf.less (fun y hy => by simp at hy ⊢; omega)
            have sp : Sp u u5 H (blkA A4 ++ H) := ⟨kH, fun y hy => by
              rcases List.mem_append.1 hy with e | e
              · obtain ⟨a, ha, e⟩ := mem_blkA.1 e
                exact .inr (by rw [← e]; exact Nat.le_trans K1.out.size (JF.out a ha).1)
              · exact .inl e⟩
            have hz3 : ∀ y ∈ blkA A4 ++ H, y < u5.heap.size := fun y hy => by
              rcases List.mem_append.1 hy with e | e
              · obtain ⟨a, ha, e⟩ := mem_blkA.1 e
                rw [← e]; exact Nat.lt_of_lt_of_le (JF.out a ha).2 k35.size
              · exact Nat.lt_of_lt_of_le (HD.out.hi y e) kH.size
            have he3 : (rb ∈ blkA A4 ++ H ∧ s0 ∈ blkA A4 ++ H ∧ s1 ∈ blkA A4 ++ H) := ⟨List.mem_append_right _ h45.2.2.1.1, List.mem_append_right _ h45.2.2.1.2.1, List.mem_append_right _ h45.2.2.1.2.2⟩
            have hA4 : ∀ a, A4 = some a → a.block ∈ blkA A4 ++ H := fun a ha => List.mem_append_left _ (mem_blkA.2 ⟨a, ha, rfl⟩)
            have hAo : ∀ a, A1 = some a → a.block ∈ blkA A4 ++ H := fun a ha => List.mem_append_right _ (h45.2.2.2.2 a ha)
            subst hp2
            have hfin := HD.out.turn (p' := ⟨⟨aq.drop T, false, false, N⟩, ⟨bq, be, bo, bm⟩, false⟩) sp ⟨he3, hA4, hAo⟩ hz3 b5 ja jb h45.1 h45.2.1
            first | exact ⟨blkA A4 ++ H, A2, c2, rfl, rfH, hfin, sp⟩ | exact ⟨rfl, blkA A4 ++ H, A2, c2, rfH, hfin, sp⟩
        | true =>
          by_cases hz : d = 0
          · have z1 : ((d : Int) == 0) = true := by simp; omega
            have z2 : (d == 0) = true := by simp [hz]
            have HZ := Lib.hid hz
            clear hz
            cases ao with
            | true =>
              obtain ⟨u4, hu4⟩ : ∃ u4, u3.setCell ⟨kb, 2, none⟩ (.bool true) = u4 := ⟨_, rfl⟩
              have KB4 := Lib.hid (show Bk u4 kb 54 #[.pointer (some ⟨s0, 0, none⟩), .bool true, .bool true, .int .i64 (N : Int)] by rw [← hu4]; exact KB3.out.set 2 _)
              have K4 := Lib.hid (show Ke [kb] u3 u4 by rw [← hu4]; exact (Ke.refl [kb] u3).set (p := ⟨kb, 2, none⟩) (by simp) _)
              go_upto_region 8 with fail
              try rw [hu4]
              clear hu4 r0 e0 e1 e2 g2
              have B4 := Lib.hid (B2.out.ke (K3.out.trans K4.out) (by have := HKB.out; simp; omega))
              have e0 := KB4.out.cell 0
              have e1 := KB4.out.cell 1
              have e2 := KB4.out.cell 2
              have e3 := KB4.out.cell 3
              have d0 := B4.out.cell 0
              have d1 := B4.out.cell 1
              have d2 := B4.out.cell 2
              have d3 := B4.out.cell 3
              have f0 := B4.out.frozen 0
              have f1 := B4.out.frozen 1
              have f2 := B4.out.frozen 2
              have f3 := B4.out.frozen 3
              simp only [List.getElem?_toArray, List.getElem?_cons_zero, List.getElem?_cons_succ] at e0 e1 e2 e3 d0 d1 d2 d3
              go_region
              clear e0 e1 e2 e3 d0 f0 d1 f1 d2 f2 d3 f3
              go_wp2
              go_ret2
              obtain ⟨u5, hu5⟩ : ∃ u5, ((((u4.setCell ⟨rb, 0, none⟩ (.pointer (some ⟨s0, 0, none⟩))).setCell ⟨rb, 1, none⟩ (.bool true)).setCell ⟨rb, 2, none⟩ (.bool true)).setCell ⟨rb, 3, none⟩ (.int .i64 (N : Int))).drew = u5 := ⟨_, rfl⟩
              try rw [hu5]
              have k5 : Ke [rb] u4 u5 := by rw [← hu5]; exact (((((Ke.refl [rb] u4).set (p := ⟨rb, 0, none⟩) (by simp) _).set (p := ⟨rb, 1, none⟩) (by simp) _).set (p := ⟨rb, 2, none⟩) (by simp) _).set (p := ⟨rb, 3, none⟩) (by simp) _).drew
              have b5 : Bk u5 rb 57 #[.pointer (some ⟨s0, 0, none⟩), .bool true, .bool true, .int .i64 (N : Int), .pointer (some ⟨s1, 0, none⟩), .bool be, .bool bo, .int .i64 bm, .bool false] := by rw [← hu5]; exact ((((B4.out.set 0 _).set 1 _).set 2 _).set 3 _).drew
              have k35 : Ke [kb, rb] u2 u5 := ((K3.out.more (by simp)).trans (K4.out.more (by simp))).trans (k5.more (by simp))
              have hb2 : b = false := by rw [← HBE.out]; unfold enO; dsimp only; have h7 := HND.out; have h8 := HZ.out; rw [show decide (aq.length = T) = true from by rw [h7.1]; exact decide_eq_true (by omega)]; rfl
              have hp2 := HP2.out
              have hnn : (M : Int) + (T : Int) = (N : Int) := by have := HN.out; omega
              rw [hb2, hnn] at hp2
              rw [hb2]
              try simp only [Bool.or_false, Bool.or_true, Bool.false_or, Bool.true_or] at hp2
              have rf := RF2.out.ke k35 (by simp)
              have h45 := HL.out
              have hkl := HKL.out
              have kH : Ke H u u5 := by
                have k02 : Ke H u u2 := (K1.out.more (by simp)).trans (J.out.2.2.more (fun y hy => by rw [List.mem_singleton.1 hy]; exact h45.2.2.1.2.1))
                refine ⟨k35.os.trans k02.os, k35.tape.trans k02.tape, k35.output.trans k02.output, Nat.le_trans k02.size k35.size, fun i hi hn => ?_⟩
                rw [k35.block i (Nat.lt_of_lt_of_le hi k02.size) (fun hm => ?_)]
                · exact k02.block i hi hn
                · rcases List.mem_cons.1 hm with e | e
                  · omega
                  · rw [List.mem_singleton.1 e] at hn; exact hn h45.2.2.1.1
              have ja : Rs u5 s0 m (aq.drop T) A4 c4 := by
                have h9 := (JRD.out.ke k35 (by simp)).less (L' := List.range (s0 + 1)) (fun y hy => by simp at hy ⊢; omega)
                exact ⟨J.out.2.1.bk.ke k35 (by simp; omega), h9, J.out.2.1.cap, J.out.2.1.max, J.out.2.1.nil_, J.out.2.1.fit, J.out.2.1.most⟩
              have jb : Rs u5 s1 m bq A1 c1 := by
                have h9 := (RRD.out.ke k35 (by simp)).less (L' := List.range (s1 + 1)) (fun y hy => by simp at hy ⊢; omega)
                exact ⟨R2.out.bk.ke k35 (by simp; omega), h9, R2.out.cap, R2.out.max, R2.out.nil_, R2.out.fit, R2.out.most⟩
              have rfH : Rf u5 [rb] A2 l := rf.less (fun y hy => by simp at hy ⊢; omega)
              have sp : Sp u u5 H (blkA A4 ++ H) := ⟨kH, fun y hy => by
                rcases List.mem_append.1 hy with e | e
                · obtain ⟨a, ha, e⟩ := mem_blkA.1 e
                  exact .inr (by rw [← e]; exact Nat.le_trans K1.out.size (JF.out a ha).1)
                · exact .inl e⟩
              have hz3 : ∀ y ∈ blkA A4 ++ H, y < u5.heap.size := fun y hy => by
                rcases List.mem_append.1 hy with e | e
                · obtain ⟨a, ha, e⟩ := mem_blkA.1 e
                  rw [← e]; exact Nat.lt_of_lt_of_le (JF.out a ha).2 k35.size
                · exact Nat.lt_of_lt_of_le (HD.out.hi y e) kH.size
              have he3 : (rb ∈ blkA A4 ++ H ∧ s0 ∈ blkA A4 ++ H ∧ s1 ∈ blkA A4 ++ H) := ⟨List.mem_append_right _ h45.2.2.1.1, List.mem_append_right _ h45.2.2.1.2.1, List.mem_append_right _ h45.2.2.1.2.2⟩
              have hA4 : ∀ a, A4 = some a → a.block ∈ blkA A4 ++ H := fun a ha => List.mem_append_left _ (mem_blkA.2 ⟨a, ha, rfl⟩)
              have hAo : ∀ a, A1 = some a → a.block ∈ blkA A4 ++ H := fun a ha => List.mem_append_right _ (h45.2.2.2.2 a ha)
              subst hp2
              have hfin := HD.out.turn (p' := ⟨⟨aq.drop T, true, true, N⟩, ⟨bq, be, bo, bm⟩, false⟩) sp ⟨he3, hA4, hAo⟩ hz3 b5 ja jb h45.1 h45.2.1
              first | exact ⟨blkA A4 ++ H, A2, c2, rfl, rfH, hfin, sp⟩ | exact ⟨rfl, blkA A4 ++ H, A2, c2, rfH, hfin, sp⟩
            | false =>
              obtain ⟨u4, hu4⟩ : ∃ u4, u3.setCell ⟨kb, 2, none⟩ (.bool true) = u4 := ⟨_, rfl⟩
              have KB4 := Lib.hid (show Bk u4 kb 54 #[.pointer (some ⟨s0, 0, none⟩), .bool true, .bool true, .int .i64 (N : Int)] by rw [← hu4]; exact KB3.out.set 2 _)
              have K4 := Lib.hid (show Ke [kb] u3 u4 by rw [← hu4]; exact (Ke.refl [kb] u3).set (p := ⟨kb, 2, none⟩) (by simp) _)
              go_upto_region 8 with fail
              try rw [hu4]
              clear hu4 r0 e0 e1 e2 g2
              have B4 := Lib.hid (B2.out.ke (K3.out.trans K4.out) (by have := HKB.out; simp; omega))
              have e0 := KB4.out.cell 0
              have e1 := KB4.out.cell 1
              have e2 := KB4.out.cell 2
              have e3 := KB4.out.cell 3
              have d0 := B4.out.cell 0
              have d1 := B4.out.cell 1
              have d2 := B4.out.cell 2
              have d3 := B4.out.cell 3
              have f0 := B4.out.frozen 0
              have f1 := B4.out.frozen 1
              have f2 := B4.out.frozen 2
              have f3 := B4.out.frozen 3
              simp only [List.getElem?_toArray, List.getElem?_cons_zero, List.getElem?_cons_succ] at e0 e1 e2 e3 d0 d1 d2 d3
              go_region
              clear e0 e1 e2 e3 d0 f0 d1 f1 d2 f2 d3 f3
              go_wp2
              go_ret2
              obtain ⟨u5, hu5⟩ : ∃ u5, ((((u4.setCell ⟨rb, 0, none⟩ (.pointer (some ⟨s0, 0, none⟩))).setCell ⟨rb, 1, none⟩ (.bool true)).setCell ⟨rb, 2, none⟩ (.bool true)).setCell ⟨rb, 3, none⟩ (.int .i64 (N : Int))).drew = u5 := ⟨_, rfl⟩
              try rw [hu5]
              have k5 : Ke [rb] u4 u5 := by rw [← hu5]; exact (((((Ke.refl [rb] u4).set (p := ⟨rb, 0, none⟩) (by simp) _).set (p := ⟨rb, 1, none⟩) (by simp) _).set (p := ⟨rb, 2, none⟩) (by simp) _).set (p := ⟨rb, 3, none⟩) (by simp) _).drew
              have b5 : Bk u5 rb 57 #[.pointer (some ⟨s0, 0, none⟩), .bool true, .bool true, .int .i64 (N : Int), .pointer (some ⟨s1, 0, none⟩), .bool be, .bool bo, .int .i64 bm, .bool false] := by rw [← hu5]; exact ((((B4.out.set 0 _).set 1 _).set 2 _).set 3 _).drew
              have k35 : Ke [kb, rb] u2 u5 := ((K3.out.more (by simp)).trans (K4.out.more (by simp))).trans (k5.more (by simp))
              have hb2 : b = true := by rw [← HBE.out]; unfold enO; dsimp only; have h7 := HND.out; have h8 := HZ.out; rw [show decide (aq.length = T) = true from by rw [h7.1]; exact decide_eq_true (by omega)]; rfl
              have hp2 := HP2.out
              have hnn : (M : Int) + (T : Int) = (N : Int) := by have := HN.out; omega
              rw [hb2, hnn] at hp2
              rw [hb2]
              try simp only [Bool.or_false, Bool.or_true, Bool.false_or, Bool.true_or] at hp2
              have rf := RF2.out.ke k35 (by simp)
              have h45 := HL.out
              have hkl := HKL.out
              have kH : Ke H u u5 := by
                have k02 : Ke H u u2 := (K1.out.more (by simp)).trans (J.out.2.2.more (fun y hy => by rw [List.mem_singleton.1 hy]; exact h45.2.2.1.2.1))
                refine ⟨k35.os.trans k02.os, k35.tape.trans k02.tape, k35.output.trans k02.output, Nat.le_trans k02.size k35.size, fun i hi hn => ?_⟩
                rw [k35.block i (Nat.lt_of_lt_of_le hi k02.size) (fun hm => ?_)]
                · exact k02.block i hi hn
                · rcases List.mem_cons.1 hm with e | e
                  · omega
                  · rw [List.mem_singleton.1 e] at hn; exact hn h45.2.2.1.1
              have ja : Rs u5 s0 m (aq.drop T) A4 c4 := by
                have h9 := (JRD.out.ke k35 (by simp)).less (L' := List.range (s0 + 1)) (fun y hy => by simp at hy ⊢; omega)
                exact ⟨J.out.2.1.bk.ke k35 (by simp; omega), h9, J.out.2.1.cap, J.out.2.1.max, J.out.2.1.nil_, J.out.2.1.fit, J.out.2.1.most⟩
              have jb : Rs u5 s1 m bq A1 c1 := by
                have h9 := (RRD.out.ke k35 (by simp)).less (L' := List.range (s1 + 1)) (fun y hy => by simp at hy ⊢; omega)
                exact ⟨R2.out.bk.ke k35 (by simp; omega), h9, R2.out.cap, R2.out.max, R2.out.nil_, R2.out.fit, R2.out.most⟩
              have rfH : Rf u5 [rb] A2 l := rf.less (fun y hy => by simp at hy ⊢; omega)
              have sp : Sp u u5 H (blkA A4 ++ H) := ⟨kH, fun y hy => by
                rcases List.mem_append.1 hy with e | e
                · obtain ⟨a, ha, e⟩ := mem_blkA.1 e
                  exact .inr (by rw [← e]; exact Nat.le_trans K1.out.size (JF.out a ha).1)
                · exact .inl e⟩
              have hz3 : ∀ y ∈ blkA A4 ++ H, y < u5.heap.size := fun y hy => by
                rcases List.mem_append.1 hy with e | e
                · obtain ⟨a, ha, e⟩ := mem_blkA.1 e
                  rw [← e]; exact Nat.lt_of_lt_of_le (JF.out a ha).2 k35.size
                · exact Nat.lt_of_lt_of_le (HD.out.hi y e) kH.size
              have he3 : (rb ∈ blkA A4 ++ H ∧ s0 ∈ blkA A4 ++ H ∧ s1 ∈ blkA A4 ++ H) := ⟨List.mem_append_right _ h45.2.2.1.1, List.mem_append_right _ h45.2.2.1.2.1, List.mem_append_right _ h45.2.2.1.2.2⟩
              have hA4 : ∀ a, A4 = some a → a.block ∈ blkA A4 ++ H := fun a ha => List.mem_append_left _ (mem_blkA.2 ⟨a, ha, rfl⟩)
              have hAo : ∀ a, A1 = some a → a.block ∈ blkA A4 ++ H := fun a ha => List.mem_append_right _ (h45.2.2.2.2 a ha)
              subst hp2
              have hfin := HD.out.turn (p' := ⟨⟨aq.drop T, true, true, N⟩, ⟨bq, be, bo, bm⟩, false⟩) sp ⟨he3, hA4, hAo⟩ hz3 b5 ja jb h45.1 h45.2.1
              first | exact ⟨blkA A4 ++ H, A2, c2, rfl, rfH, hfin, sp⟩ | exact ⟨rfl, blkA A4 ++ H, A2, c2, rfH, hfin, sp⟩
          · have z1 : ((d : Int) == 0) = false := by simp; omega
            have z2 : (d == 0) = false := by simp [hz]
            have HZ := Lib.hid hz
            clear hz
            cases ao with
            | true =>
              obtain ⟨u4, hu4⟩ : ∃ u4, u3.setCell ⟨kb, 2, none⟩ (.bool true) = u4 := ⟨_, rfl⟩
              have KB4 := Lib.hid (show Bk u4 kb 54 #[.pointer (some ⟨s0, 0, none⟩), .bool true, .bool true, .int .i64 (N : Int)] by rw [← hu4]; exact KB3.out.set 2 _)
              have K4 := Lib.hid (show Ke [kb] u3 u4 by rw [← hu4]; exact (Ke.refl [kb] u3).set (p := ⟨kb, 2, none⟩) (by simp) _)
              go_upto_region 8 with fail
              try rw [hu4]
              clear hu4 r0 e0 e1 e2 g2
              have B4 := Lib.hid (B2.out.ke (K3.out.trans K4.out) (by have := HKB.out; simp; omega))
              have e0 := KB4.out.cell 0
              have e1 := KB4.out.cell 1
              have e2 := KB4.out.cell 2
              have e3 := KB4.out.cell 3
              have d0 := B4.out.cell 0
              have d1 := B4.out.cell 1
              have d2 := B4.out.cell 2
              have d3 := B4.out.cell 3
              have f0 := B4.out.frozen 0
              have f1 := B4.out.frozen 1
              have f2 := B4.out.frozen 2
              have f3 := B4.out.frozen 3
              simp only [List.getElem?_toArray, List.getElem?_cons_zero, List.getElem?_cons_succ] at e0 e1 e2 e3 d0 d1 d2 d3
              go_region
              clear e0 e1 e2 e3 d0 f0 d1 f1 d2 f2 d3 f3
              go_wp2
              go_ret2
              obtain ⟨u5, hu5⟩ : ∃ u5, ((((u4.setCell ⟨rb, 0, none⟩ (.pointer (some ⟨s0, 0, none⟩))).setCell ⟨rb, 1, none⟩ (.bool true)).setCell ⟨rb, 2, none⟩ (.bool true)).setCell ⟨rb, 3, none⟩ (.int .i64 (N : Int))).drew = u5 := ⟨_, rfl⟩
              try rw [hu5]
              have k5 : Ke [rb] u4 u5 := by rw [← hu5]; exact (((((Ke.refl [rb] u4).set (p := ⟨rb, 0, none⟩) (by simp) _).set (p := ⟨rb, 1, none⟩) (by simp) _).set (p := ⟨rb, 2, none⟩) (by simp) _).set (p := ⟨rb, 3, none⟩) (by simp) _).drew
              have b5 : Bk u5 rb 57 #[.pointer (some ⟨s0, 0, none⟩), .bool true, .bool true, .int .i64 (N : Int), .pointer (some ⟨s1, 0, none⟩), .bool be, .bool bo, .int .i64 bm, .bool false] := by rw [← hu5]; exact ((((B4.out.set 0 _).set 1 _).set 2 _).set 3 _).drew
              have k35 : Ke [kb, rb] u2 u5 := ((K3.out.more (by simp)).trans (K4.out.more (by simp))).trans (k5.more (by simp))
              have hb2 : b = false := by rw [← HBE.out]; unfold enO; dsimp only; have h7 := HND.out; have h8 := HZ.out; rw [show decide (aq.length = T) = false from by rw [h7.1]; exact decide_eq_false (by omega)]; rfl
              have hp2 := HP2.out
              have hnn : (M : Int) + (T : Int) = (N : Int) := by have := HN.out; omega
              rw [hb2, hnn] at hp2
              rw [hb2]
              try simp only [Bool.or_false, Bool.or_true, Bool.false_or, Bool.true_or] at hp2
              have rf := RF2.out.ke k35 (by simp)
              have h45 := HL.out
              have hkl := HKL.out
              have kH : Ke H u u5 := by
                have k02 : Ke H u u2 := (K1.out.more (by simp)).trans (J.out.2.2.more (fun y hy => by rw [List.mem_singleton.1 hy]; exact h45.2.2.1.2.1))
                refine ⟨k35.os.trans k02.os, k35.tape.trans k02.tape, k35.output.trans k02.output, Nat.le_trans k02.size k35.size, fun i hi hn => ?_⟩
                rw [k35.block i (Nat.lt_of_lt_of_le hi k02.size) (fun hm => ?_)]
                · exact k02.block i hi hn
                · rcases List.mem_cons.1 hm with e | e
                  · omega
                  · rw [List.mem_singleton.1 e] at hn; exact hn h45.2.2.1.1
              have ja : Rs u5 s0 m (aq.drop T) A4 c4 := by
                have h9 := (JRD.out.ke k35 (by simp)).less (L' := List.range (s0 + 1)) (fun y hy => by simp at hy ⊢; omega)
                exact ⟨J.out.2.1.bk.ke k35 (by simp; omega), h9, J.out.2.1.cap, J.out.2.1.max, J.out.2.1.nil_, J.out.2.1.fit, J.out.2.1.most⟩
              have jb : Rs u5 s1 m bq A1 c1 := by
                have h9 := (RRD.out.ke k35 (by simp)).less (L' := List.range (s1 + 1)) (fun y hy => by simp at hy ⊢; omega)
                exact ⟨R2.out.bk.ke k35 (by simp; omega), h9, R2.out.cap, R2.out.max, R2.out.nil_, R2.out.fit, R2.out.most⟩
              have rfH : Rf u5 [rb] A2 l := rf.less (fun y hy => by simp at hy ⊢; omega)
              have sp : Sp u u5 H (blkA A4 ++ H) := ⟨kH, fun y hy => by
                rcases List.mem_append.1 hy with e | e
                · obtain ⟨a, ha, e⟩ := mem_blkA.1 e
                  exact .inr (by rw [← e]; exact Nat.le_trans K1.out.size (JF.out a ha).1)
                · exact .inl e⟩
              have hz3 : ∀ y ∈ blkA A4 ++ H, y < u5.heap.size := fun y hy => by
                rcases List.mem_append.1 hy with e | e
                · obtain ⟨a, ha, e⟩ := mem_blkA.1 e
                  rw [← e]; exact Nat.lt_of_lt_of_le (JF.out a ha).2 k35.size
                · exact Nat.lt_of_lt_of_le (HD.out.hi y e) kH.size
              have he3 : (rb ∈ blkA A4 ++ H ∧ s0 ∈ blkA A4 ++ H ∧ s1 ∈ blkA A4 ++ H) := ⟨List.mem_append_right _ h45.2.2.1.1, List.mem_append_right _ h45.2.2.1.2.1, List.mem_append_right _ h45.2.2.1.2.2⟩
              have hA4 : ∀ a, A4 = some a → a.block ∈ blkA A4 ++ H := fun a ha => List.mem_append_left _ (mem_blkA.2 ⟨a, ha, rfl⟩)
              have hAo : ∀ a, A1 = some a → a.block ∈ blkA A4 ++ H := fun a ha => List.mem_append_right _ (h45.2.2.2.2 a ha)
              subst hp2
              have hfin := HD.out.turn (p' := ⟨⟨aq.drop T, true, true, N⟩, ⟨bq, be, bo, bm⟩, false⟩) sp ⟨he3, hA4, hAo⟩ hz3 b5 ja jb h45.1 h45.2.1
              first | exact ⟨blkA A4 ++ H, A2, c2, rfl, rfH, hfin, sp⟩ | exact ⟨rfl, blkA A4 ++ H, A2, c2, rfH, hfin, sp⟩
            | false =>
              obtain ⟨u4, hu4⟩ : ∃ u4, u3.setCell ⟨kb, 2, none⟩ (.bool false) = u4 := ⟨_, rfl⟩
              have KB4 := Lib.hid (show Bk u4 kb 54 #[.pointer (some ⟨s0, 0, none⟩), .bool true, .bool false, .int .i64 (N : Int)] by rw [← hu4]; exact KB3.out.set 2 _)
              have K4 := Lib.hid (show Ke [kb] u3 u4 by rw [← hu4]; exact (Ke.refl [kb] u3).set (p := ⟨kb, 2, none⟩) (by simp) _)
              go_upto_region 8 with fail
              try rw [hu4]
              clear hu4 r0 e0 e1 e2 g2
              have B4 := Lib.hid (B2.out.ke (K3.out.trans K4.out) (by have := HKB.out; simp; omega))
              have e0 := KB4.out.cell 0
              have e1 := KB4.out.cell 1
              have e2 := KB4.out.cell 2
              have e3 := KB4.out.cell 3
              have d0 := B4.out.cell 0
              have d1 := B4.out.cell 1
              have d2 := B4.out.cell 2
              have d3 := B4.out.cell 3
              have f0 := B4.out.frozen 0
              have f1 := B4.out.frozen 1
              have f2 := B4.out.frozen 2
              have f3 := B4.out.frozen 3
              simp only [List.getElem?_toArray, List.getElem?_cons_zero, List.getElem?_cons_succ] at e0 e1 e2 e3 d0 d1 d2 d3
              go_region
              clear e0 e1 e2 e3 d0 f0 d1 f1 d2 f2 d3 f3
              go_wp2
              go_ret2
              obtain ⟨u5, hu5⟩ : ∃ u5, ((((u4.setCell ⟨rb, 0, none⟩ (.pointer (some ⟨s0, 0, none⟩))).setCell ⟨rb, 1, none⟩ (.bool true)).setCell ⟨rb, 2, none⟩ (.bool false)).setCell ⟨rb, 3, none⟩ (.int .i64 (N : Int))).drew = u5 := ⟨_, rfl⟩
              try rw [hu5]
              have k5 : Ke [rb] u4 u5 := by rw [← hu5]; exact (((((Ke.refl [rb] u4).set (p := ⟨rb, 0, none⟩) (by simp) _).set (p := ⟨rb, 1, none⟩) (by simp) _).set (p := ⟨rb, 2, none⟩) (by simp) _).set (p := ⟨rb, 3, none⟩) (by simp) _).drew
              have b5 : Bk u5 rb 57 #[.pointer (some ⟨s0, 0, none⟩), .bool true, .bool false, .int .i64 (N : Int), .pointer (some ⟨s1, 0, none⟩), .bool be, .bool bo, .int .i64 bm, .bool false] := by rw [← hu5]; exact ((((B4.out.set 0 _).set 1 _).set 2 _).set 3 _).drew
              have k35 : Ke [kb, rb] u2 u5 := ((K3.out.more (by simp)).trans (K4.out.more (by simp))).trans (k5.more (by simp))
              have hb2 : b = false := by rw [← HBE.out]; unfold enO; dsimp only; have h7 := HND.out; have h8 := HZ.out; rw [show decide (aq.length = T) = false from by rw [h7.1]; exact decide_eq_false (by omega)]; rfl
              have hp2 := HP2.out
              have hnn : (M : Int) + (T : Int) = (N : Int) := by have := HN.out; omega
              rw [hb2, hnn] at hp2
              rw [hb2]
              try simp only [Bool.or_false, Bool.or_true, Bool.false_or, Bool.true_or] at hp2
              have rf := RF2.out.ke k35 (by simp)
              have h45 := HL.out
              have hkl := HKL.out
              have kH : Ke H u u5 := by
                have k02 : Ke H u u2 := (K1.out.more (by simp)).trans (J.out.2.2.more (fun y hy => by rw [List.mem_singleton.1 hy]; exact h45.2.2.1.2.1))
                refine ⟨k35.os.trans k02.os, k35.tape.trans k02.tape, k35.output.trans k02.output, Nat.le_trans k02.size k35.size, fun i hi hn => ?_⟩
                rw [k35.block i (Nat.lt_of_lt_of_le hi k02.size) (fun hm => ?_)]
                · exact k02.block i hi hn
                · rcases List.mem_cons.1 hm with e | e
                  · omega
                  · rw [List.mem_singleton.1 e] at hn; exact hn h45.2.2.1.1
              have ja : Rs u5 s0 m (aq.drop T) A4 c4 := by
                have h9 := (JRD.out.ke k35 (by simp)).less (L' := List.range (s0 + 1)) (fun y hy => by simp at hy ⊢; omega)
                exact ⟨J.out.2.1.bk.ke k35 (by simp; omega), h9, J.out.2.1.cap, J.out.2.1.max, J.out.2.1.nil_, J.out.2.1.fit, J.out.2.1.most⟩
              have jb : Rs u5 s1 m bq A1 c1 := by
                have h9 := (RRD.out.ke k35 (by simp)).less (L' := List.range (s1 + 1)) (fun y hy => by simp at hy ⊢; omega)
                exact ⟨R2.out.bk.ke k35 (by simp; omega), h9, R2.out.cap, R2.out.max, R2.out.nil_, R2.out.fit, R2.out.most⟩
              have rfH : Rf u5 [rb] A2 l := rf.less (fun y hy => by simp at hy ⊢; omega)
              have sp : Sp u u5 H (blkA A4 ++ H) := ⟨kH, fun y hy => by
                rcases List.mem_append.1 hy with e | e
                · obtain ⟨a, ha, e⟩ := mem_blkA.1 e
                  exact .inr (by rw [← e]; exact Nat.le_trans K1.out.size (JF.out a ha).1)
                · exact .inl e⟩
              have hz3 : ∀ y ∈ blkA A4 ++ H, y < u5.heap.size := fun y hy => by
                rcases List.mem_append.1 hy with e | e
                · obtain ⟨a, ha, e⟩ := mem_blkA.1 e
                  rw [← e]; exact Nat.lt_of_lt_of_le (JF.out a ha).2 k35.size
                · exact Nat.lt_of_lt_of_le (HD.out.hi y e) kH.size
              have he3 : (rb ∈ blkA A4 ++ H ∧ s0 ∈ blkA A4 ++ H ∧ s1 ∈ blkA A4 ++ H) := ⟨List.mem_append_right _ h45.2.2.1.1, List.mem_append_right _ h45.2.2.1.2.1, List.mem_append_right _ h45.2.2.1.2.2⟩
              have hA4 : ∀ a, A4 = some a → a.block ∈ blkA A4 ++ H := fun a ha => List.mem_append_left _ (mem_blkA.2 ⟨a, ha, rfl⟩)
              have hAo : ∀ a, A1 = some a → a.block ∈ blkA A4 ++ H := fun a ha => List.mem_append_right _ (h45.2.2.2.2 a ha)
              subst hp2
              have hfin := HD.out.turn (p' := ⟨⟨aq.drop T, true, false, N⟩, ⟨bq, be, bo, bm⟩, false⟩) sp ⟨he3, hA4, hAo⟩ hz3 b5 ja jb h45.1 h45.2.1
              first | exact ⟨blkA A4 ++ H, A2, c2, rfl, rfH, hfin, sp⟩ | exact ⟨rfl, blkA A4 ++ H, A2, c2, rfH, hfin, sp⟩
    · have HS := Lib.hid (rside_n s e0 e1)
      unfold outP at hE
      rw [sdK_n e0 e1] at hE
      clear e0 e1
      have e4 : [] = l := congrArg (fun r => r.1.1) hE
      have e5 : false = b := congrArg (fun r => r.1.2) hE
      have e3 := congrArg (fun r => r.2) hE
      dsimp only at e3
      subst e4; subst e5
      have HT := Lib.hid ht
      have HP2 := Lib.hid e3
      clear hE ht e3
      go_enter Try.func15, Try.ntmps15
      go_wp2_with (go_at_call 34; (with_reducible refine (HS.out _).mono ?_); rintro e w2 ⟨rfl, hw⟩; rw [hw]; clear hw)
      go_ret2
      have ht := HT.out
      simp at ht
      subst ht
      have hp2 := HP2.out
      first | exact ⟨H, none, 0, rfl, .inl rfl, by rw [← hp2]; exact HD.out, Sp.refl _ _⟩ | exact ⟨rfl, H, none, 0, .inl rfl, by rw [← hp2]; exact HD.out, Sp.refl _ _⟩ | exact ⟨H, rfl, none, 0, .inl rfl, by rw [← hp2]; exact HD.out, Sp.refl _ _⟩
end
end Go.Proofs.Ytpomeimjgbblmaa
