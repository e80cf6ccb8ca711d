/- The document's own: Get: its contract. (Written by gen_wrefg.py.) -/
import Derived.Test.YtimhjmeebahdaaaDoorWRef2
import Derived.Test.YtimhjmeebahdaaaDoorWire6
import Derived.Test.YtimhjmeebahdaaaDoorRRead
import Derived.Test.YtimhjmeebahdaaaDoorRefG
import Derived.Test.YtimhjmeebahdaaaDoorTail
namespace Go.Proofs.YtimhjmeebahdaaaDoor
set_option linter.unusedVariables false
set_option linter.unusedSimpArgs false
open Go.RowKit

theorem wpList_here {P : Program} {ops : Array Oper} {Q : Exit → Act → World → Prop} {l : List Oper} {a : Act} {w : World} (h : wpList P ops Q l a w) : wpList P ops Q l a w := h
theorem calls_here {P : Program} {f : FuncId} {args : Array Value} {w : World} {Q : Ending → World → Prop} (h : Calls P f args w Q) : Calls P f args w Q := h
theorem hasK_big (q j : Nat) (h : 15 ≤ q) : hasK q j = false := by
  unfold hasK
  have : ptL.getD q 0 = 0 := by
    rw [List.getD, List.getElem?_eq_none (by simpa [ptL] using h)]; rfl
  rw [this, Nat.zero_testBit]
theorem zeroM_cells : (zeroM 0).cells = #[.int .i64 0, .string ⟨#[]⟩, .string ⟨#[]⟩, .int .i64 0, .int .i64 0] := rfl
theorem hasK_0 : ∀ j, j < 4 → hasK 0 j = false := by decide +kernel
theorem has_letters (q : Nat) (s : ByteArray) (kb : Bool) (h : Lts (q : Int) s kb) (hs : ltB (q : Int) = s) (hk : knownB (q : Int) = kb) :
    decide ((65 : UInt8) ∈ s.data.toList) = hasK q 0 ∧ decide ((66 : UInt8) ∈ s.data.toList) = hasK q 1 ∧ decide ((78 : UInt8) ∈ s.data.toList) = hasK q 2 ∧ decide ((77 : UInt8) ∈ s.data.toList) = hasK q 3 := by
  cases kb with
  | true => exact ⟨h.a rfl, h.b rfl, h.n rfl, h.m rfl⟩
  | false =>
    have e : s = bs [46] := by rw [← hs, ltB, if_neg (by rw [hk]; simp)]
    have hz : ∀ j, j < 4 → hasK q j = false := fun j hj => by
      unfold knownB at hk
      by_cases h0 : q = 0
      · rw [h0]; exact hasK_0 j hj
      · refine hasK_big q j ?_
        simp only [Bool.and_eq_false_iff, decide_eq_false_iff_not] at hk
        omega
    rw [hz 0 (by omega), hz 1 (by omega), hz 2 (by omega), hz 3 (by omega), e, bs_data]
    decide
theorem getW_all (c : UInt8) (r : List UInt8) : getW (c :: r) = endW (goW c.toNat 4 (zeroM c.toNat) r) := by
  rw [getW]
  by_cases hk : knownB (c.toNat : Int) = true
  · rw [if_pos hk]
  · rw [if_neg hk]
    have hk' : knownB (c.toNat : Int) = false := by simpa using hk
    cases hg : goW c.toNat 4 (zeroM c.toNat) r with
    | none => rfl
    | some p =>
      obtain ⟨y, l'⟩ := p
      obtain ⟨e1, _⟩ := go_inv c.toNat _ y r l' rfl hg
      have hr : rightM y = false := by
        unfold rightM
        rw [e1, show (zeroM (c.toNat : Int)).k = (c.toNat : Int) from rfl, hk']; rfl
      rw [endW, hr]; simp

/-- What stands while the parts are read. -/
structure RgI (w : World) (x : Mg) (A : Option Addr) (l : List UInt8) (u : World) : Prop where
  row : Bk u (w.heap.size + 1) 23 x.cells
  res : Bk u w.heap.size 23 (zeroM 0).cells
  rb : Rb u w.heap.size A l
  b : Below w.heap.size w u
theorem RgI.on {w u u' : World} {x : Mg} {A : Option Addr} {l : List UInt8} (H : RgI w x A l u) (hb : Below u.heap.size u u') : RgI w x A l u' :=
  ⟨H.row.below hb H.row.lt, H.res.below hb H.res.lt, H.rb.below (hb.mono H.b.size) (Nat.le_refl _), H.b.trans (hb.mono H.b.size)⟩
theorem RgI.put {w u : World} {x y : Mg} {A : Option Addr} {l : List UInt8} (H : RgI w x A l u) (i : Nat) (v : Value) (hy : x.cells.setIfInBounds i v = y.cells) {c : Nat} (k : Nat) (hc : l.length ≤ c) :
    RgI w y (tailA A c k) (l.drop k) (u.setCell ⟨w.heap.size + 1, i, none⟩ v) := by
  have hbs : Below w.heap.size u (u.setCell ⟨w.heap.size + 1, i, none⟩ v) := (Below.refl _ _).setCell (by show w.heap.size ≤ w.heap.size + 1; omega) _
  refine ⟨?_, H.res.far (by show w.heap.size ≠ w.heap.size + 1; omega) _, (H.rb.below hbs (Nat.le_refl _)).tail k hc, H.b.trans hbs⟩
  have := H.row.set i v
  rwa [hy] at this
theorem RgI.c {w u : World} {k n m : Int} {a b : ByteArray} {A : Option Addr} {l : List UInt8} (H : RgI w ⟨k, a, b, n, m⟩ A l u) :
    u.cell? ⟨w.heap.size + 1, 0, none⟩ = some (.int .i64 k) ∧ u.cell? ⟨w.heap.size + 1, 1, none⟩ = some (.string a) ∧ u.cell? ⟨w.heap.size + 1, 2, none⟩ = some (.string b) ∧ u.cell? ⟨w.heap.size + 1, 3, none⟩ = some (.int .i64 n) ∧ u.cell? ⟨w.heap.size + 1, 4, none⟩ = some (.int .i64 m) :=
  bk_msg H.row

set_option maxRecDepth 100000 in
set_option maxHeartbeats 8000000 in
theorem rwget_ok (A : Option Addr) (l : List UInt8) (n c : Nat) (w : World) (hR : Rb w w.heap.size A l) (hl : l.length ≤ 140737488355328) (hn : l.length = n) (hc : n ≤ c) (hc2 : c ≤ 9223372036854775807) :
    Calls Tryd.prog 12 #[.slice A n c] w fun e w' => e = getE (getW l) ∧ Below w.heap.size w w' := by
  obtain ⟨RR, hRR⟩ : ∃ RR, getW l = RR := ⟨_, rfl⟩
  rw [hRR]
  have hres := Bk.new w 23 (zeroM 0).cells
  have hb1 : Below w.heap.size w (w.alloc (.cells (zeroM 0).cells 23)) := (Below.refl _ _).alloc (Nat.le_refl _) _
  have hZ : (zeroM 0).cells = #[.int .i64 0, .string ⟨#[]⟩, .string ⟨#[]⟩, .int .i64 0, .int .i64 0] := rfl
  cases l with
  | nil =>
    obtain rfl : n = 0 := hn.symm
    obtain rfl : RR = none := hRR.symm
    clear hRR hR
    go_enter Tryd.func12, Tryd.ntmps12
    go_upto_region 1 with (fail)
    rw [← hZ]
    generalize w.alloc (.cells (zeroM 0).cells 23) = w1 at hres hb1 ⊢
    have HRES := Lib.hid hres
    go_wp2_with ((with_reducible refine wpList_here ?_); refine wpList_store_row rfl 23 (.tmp 2) (.tmp 21) rfl w.heap.size (zeroM 0).cells rfl rfl 23 _ HRES.out msg_size rfl (cells_one _) ?_)
    obtain ⟨q0, q1, q2, q3, q4⟩ := bk_msg (x := zeroM 0) (show Bk (w1.setRow w.heap.size #[.int .i64 0, .string ⟨#[]⟩, .string ⟨#[]⟩, .int .i64 0, .int .i64 0]) w.heap.size 23 _ from (hres).setRow _)
    simp only [zeroM, bs] at q0 q1 q2 q3 q4
    try simp only [zeroM_cells]
    have hB := Below.setRow (hb1) w.heap.size (Nat.le_refl _) #[.int .i64 0, .string ⟨#[]⟩, .string ⟨#[]⟩, .int .i64 0, .int .i64 0]
    generalize w1.setRow w.heap.size #[.int .i64 0, .string ⟨#[]⟩, .string ⟨#[]⟩, .int .i64 0, .int .i64 0] = w2 at q0 q1 q2 q3 q4 hB ⊢
    exact bodyPost_ret (v := .tuple #[.agg #[.int .i64 0, .string ⟨#[]⟩, .string ⟨#[]⟩, .int .i64 0, .int .i64 0], .bool false]) (by simp [results, Tryd.results12, go_sem, q0, q1, q2, q3, q4]) rfl ⟨rfl, hB⟩
  | cons b0 r =>
    obtain ⟨b, o, rfl, hob, hcell⟩ : ∃ b o, A = some ⟨b, o, none⟩ ∧ b < w.heap.size ∧ ∀ i, (h : i < (b0 :: r).length) → w.cell? ⟨b, o + i, none⟩ = some (.int .u8 (((b0 :: r)[i]).toNat : Int)) := by
      rcases hR with h | ⟨b, o, e, h1, h2⟩
      · cases h
      · exact ⟨b, o, e, h1, h2⟩
    obtain ⟨q, hq⟩ : ∃ q : Nat, q = b0.toNat := ⟨_, rfl⟩
    have c0 : w.cell? ⟨b, o, none⟩ = some (.int .u8 (q : Int)) := by
      have := hcell 0 (by simp)
      rw [hq]; simpa using this
    have hnr : r.length + 1 = n := by rw [← hn]; rfl
    have HRB := Lib.hid hR
    have HRQ := Lib.hid (show endW (goW q 4 (zeroM q) r) = RR by rw [← hRR, getW_all, hq])
    have hn0 : ((n : Int) == 0) = false := by rw [beq_eq_false_iff_ne]; omega
    have hn1 : (0 : Int) < (n : Int) := by omega
    have hn2 : 0 < n := by omega
    have hnl : n ≤ 140737488355328 := by omega
    have hq2 : q < 256 := by rw [hq]; exact b0.toNat_lt
    have hwq : IntKind.i64.wrap (q : Int) = (q : Int) := by simp (disch := omega) only [IntWalk.i64_in]
    have HNR := Lib.hid hnr
    have hlt := lts (q : Int)
    have HHAS := Lib.hid (fun u => rhas_ok (q : Int) u)
    obtain ⟨s, hs⟩ : ∃ s, ltB (q : Int) = s := ⟨_, rfl⟩
    rw [hs] at hlt HHAS
    obtain ⟨hA, hB, hN, hM⟩ := has_letters q s _ hlt hs rfl
    obtain ⟨h0, e0⟩ : ∃ h0, hasK q 0 = h0 := ⟨_, rfl⟩
    obtain ⟨h1, e1⟩ : ∃ h1, hasK q 1 = h1 := ⟨_, rfl⟩
    obtain ⟨h2, e2⟩ : ∃ h2, hasK q 2 = h2 := ⟨_, rfl⟩
    obtain ⟨h3, e3⟩ : ∃ h3, hasK q 3 = h3 := ⟨_, rfl⟩
    rw [e0] at hA
    rw [e1] at hB
    rw [e2] at hN
    rw [e3] at hM
    have HO0 := Lib.hid (fun u => of_c s hlt.size 65 65 rfl h0 hA u)
    have HO1 := Lib.hid (fun u => of_c s hlt.size 66 66 rfl h1 hB u)
    have HO2 := Lib.hid (fun u => of_c s hlt.size 78 78 rfl h2 hN u)
    have HO3 := Lib.hid (fun u => of_c s hlt.size 77 77 rfl h3 hM u)
    have E0 := Lib.hid e0
    have E1 := Lib.hid e1
    have E2 := Lib.hid e2
    have E3 := Lib.hid e3
    have HSL := Lib.hid (show ∀ u, (Instr.sliceAt 24 (.slice (some ⟨b, o, none⟩) n c) (some (.int .i64 1)) none none).run Tryd.prog u = .ok (.slice (tailA (some ⟨b, o, none⟩) c 1) (n - 1) (c - 1)) u from fun u => slice_fr (some ⟨b, o, none⟩) n c 1 (by omega) hc u)
    clear hRR hcell hq hR hn hl hnr hlt hs hA hB hN hM e0 e1 e2 e3
    go_enter Tryd.func12, Tryd.ntmps12
    generalize hQ' : bodyPost Tryd.prog Tryd.f12 (fun e w' => e = getE RR ∧ Below w.heap.size w w') = Q'
    have HQP := Lib.hid hQ'.symm
    clear hQ'
    go_upto_region 1 with (fail)
    rw [← hZ]
    have HZ1 := Lib.hid (show (w.alloc (.cells (zeroM 0).cells 23)).heap.size = w.heap.size + 1 by simp)
    generalize w.alloc (.cells (zeroM 0).cells 23) = w1 at hres hb1 HZ1 ⊢
    have HRES := Lib.hid hres
    have HB1 := Lib.hid hb1
    have c1 : w1.cell? ⟨b, o, none⟩ = some (.int .u8 (q : Int)) := (hb1.cell (p := ⟨b, o, none⟩) hob).trans c0
    clear hres hb1
    have hz1 := HZ1.out
    go_upto_region 4 with (fail)
    have HW := Lib.hid (show RgI w (zeroM q) (some ⟨b, o, none⟩) (b0 :: r) (w1.alloc (.cells #[.int .i64 (q : Int), .string ⟨#[]⟩, .string ⟨#[]⟩, .int .i64 0, .int .i64 0] 23)) from by
      have hb2 : Below w.heap.size w (w1.alloc (.cells #[.int .i64 (q : Int), .string ⟨#[]⟩, .string ⟨#[]⟩, .int .i64 0, .int .i64 0] 23)) := HB1.out.alloc HB1.out.size _
      exact ⟨Bk.here (w := w1) (by omega), HRES.out.alloc _, HRB.out.below hb2 (Nat.le_refl _), hb2⟩)
    generalize w1.alloc (.cells #[.int .i64 (q : Int), .string ⟨#[]⟩, .string ⟨#[]⟩, .int .i64 0, .int .i64 0] 23) = w2 at HW ⊢
    have x0 : w2.cell? ⟨w.heap.size + 1, 0, none⟩ = some (.int .i64 (q : Int)) := by rw [HW.out.row.cell]; rfl
    clear HRES HB1 HZ1 hz1 c0 c1 HRB hwq
    go_wp2_with fail
    refine (HHAS.out _).mono ?_
    rintro e w3 ⟨rfl, hb3⟩
    have HW3 := Lib.hid (HW.out.on hb3)
    clear hb3 HW x0 HHAS
    go_upto_region 6 with ((with_reducible refine wpList_here ?_); refine wpList_from rfl 24 (.tmp 30) (.const (.int .i64 1)) rfl _ _ _ rfl rfl (HSL.out _) ?_)
    have HW := Lib.hid (show RgI w ⟨q, bs [], bs [], 0, 0⟩ (tailA (some ⟨b, o, none⟩) c 1) r w3 from ⟨HW3.out.row, HW3.out.res, HW3.out.rb.tail (c := c) 1 (by have := HNR.out; rw [List.length_cons]; omega), HW3.out.b⟩)
    have HL := Lib.hid (show r.length = n - 1 by have := HNR.out; omega)
    have hnc : n - 1 ≤ c - 1 := by omega
    have hcm : c - 1 ≤ 9223372036854775807 := by omega
    have hnm : n - 1 ≤ 140737488355328 := by omega
    have HSZ := Lib.hid (show (bs []).size ≤ 255 ∧ (bs []).size ≤ 255 from ⟨by rw [bs_size]; exact Nat.zero_le _, by rw [bs_size]; exact Nat.zero_le _⟩)
    have HQ := Lib.hid (show endW (goW q (4 - 0) ⟨q, bs [], bs [], 0, 0⟩ r) = RR from HRQ.out)
    clear HW3 HSL HRQ HNR hn0 hn1
    generalize n - 1 = n' at HL hnc hnm ⊢
    generalize c - 1 = c' at hnc hcm ⊢
    generalize tailA (some ⟨b, o, none⟩) c 1 = A' at HW ⊢
    clear hZ hob hc hc2 hn2 hnl
    obtain ⟨xa, xb, xn, xm, HW, HSZ, HQ⟩ : ∃ (xa xb : ByteArray) (xn xm : Int), Hid (RgI w ⟨q, xa, xb, xn, xm⟩ A' r w3) ∧ Hid (xa.size ≤ 255 ∧ xb.size ≤ 255) ∧ Hid (endW (goW q (4 - 0) ⟨q, xa, xb, xn, xm⟩ r) = RR) := ⟨_, _, _, _, HW, HSZ, HQ⟩
    generalize r = l' at HL HW HQ
    go_wp2_with fail
    refine (HO0.out _).mono ?_
    rintro e u0 ⟨rfl, rfl⟩
    go_upto_if 33 with (fail)
    go_cut [0] from 6 (fun v0 wx => ∃ (xa xb : ByteArray) (xn xm : Int) (A' : Option Addr) (n' c' : Nat) (l' : List UInt8), v0 = .slice A' n' c' ∧ Hid (l'.length = n') ∧ n' ≤ c' ∧ c' ≤ 9223372036854775807 ∧ n' ≤ 140737488355328 ∧ Hid (xa.size ≤ 255 ∧ xb.size ≤ 255) ∧ Hid (RgI w ⟨q, xa, xb, xn, xm⟩ A' l' wx) ∧ Hid (endW (goW q (4 - (0 + 1)) ⟨q, xa, xb, xn, xm⟩ l') = RR))
    case first =>
      cases h0 with
      | false =>
        have HQ2 := Lib.hid (show endW (goW q (4 - (0 + 1)) ⟨q, xa, xb, xn, xm⟩ l') = RR by rw [← goW_no (by omega) E0.out]; exact HQ.out)
        go_wp2_with fail
        go_meet
        case rel => exact ⟨xa, xb, xn, xm, A', n', c', l', rfl, HL, hnc, hcm, hnm, HSZ, HW, HQ2⟩
      | true =>
        have hrd := rread_ok A' l' n' c' w3 (HW.out.rb.more HW.out.b.size) (by have := HL.out; omega) HL.out hnc hcm
        obtain ⟨RD, hRD⟩ : ∃ RD, readS l' = RD := ⟨_, rfl⟩
        rw [hRD] at hrd
        cases RD with
        | none =>
          simp only [readE] at hrd
          have HRD := Lib.hid hrd
          have HN := Lib.hid (show none = RR by rw [← HQ.out, goW_none (by omega) E0.out (by simp only [stepW]; rw [hRD]; rfl)]; rfl)
          clear hRD hrd
          go_wp2_with (first | ((with_reducible refine calls_here ?_); refine HRD.out.mono ?_; rintro e w9 ⟨rfl, rfl⟩) | ((with_reducible refine wpList_here ?_); refine wpList_store_row rfl 23 (.tmp 2) (.tmp 42) rfl w.heap.size (zeroM 0).cells rfl rfl 23 _ HW.out.res msg_size rfl (cells_one _) ?_))
          rw [HQP.out, ← HN.out]
          obtain ⟨q0, q1, q2, q3, q4⟩ := bk_msg (x := zeroM 0) (show Bk (w3.setRow w.heap.size #[.int .i64 0, .string ⟨#[]⟩, .string ⟨#[]⟩, .int .i64 0, .int .i64 0]) w.heap.size 23 _ from (HW.out.res).setRow _)
          simp only [zeroM, bs] at q0 q1 q2 q3 q4
          try simp only [zeroM_cells]
          have hB := Below.setRow (HW.out.b) w.heap.size (Nat.le_refl _) #[.int .i64 0, .string ⟨#[]⟩, .string ⟨#[]⟩, .int .i64 0, .int .i64 0]
          generalize w3.setRow w.heap.size #[.int .i64 0, .string ⟨#[]⟩, .string ⟨#[]⟩, .int .i64 0, .int .i64 0] = w2 at q0 q1 q2 q3 q4 hB ⊢
          exact bodyPost_ret (v := .tuple #[.agg #[.int .i64 0, .string ⟨#[]⟩, .string ⟨#[]⟩, .int .i64 0, .int .i64 0], .bool false]) (by simp [results, Tryd.results12, go_sem, q0, q1, q2, q3, q4]) rfl ⟨rfl, hB⟩
        | some t =>
          obtain ⟨ht1, ht2⟩ := readS_len hRD
          obtain ⟨K, hK⟩ : ∃ K, 1 + t.length = K := ⟨_, rfl⟩
          have hKi : (1 + (t.length : Int)) = (K : Int) := by omega
          simp only [readE] at hrd
          rw [hKi] at hrd
          rw [hK] at ht1
          have HRD := Lib.hid hrd
          have HN := Lib.hid (show endW (goW q (4 - (0 + 1)) ⟨q, bs t, xb, xn, xm⟩ (l'.drop K)) = RR by rw [← goW_some (x := ⟨q, xa, xb, xn, xm⟩) (l := l') (show 0 < 4 by omega) E0.out (by simp only [stepW]; rw [hRD]; rw [← hK]; rfl)]; exact HQ.out)
          have HKL := Lib.hid (show K ≤ n' by have := HL.out; omega)
          have HS2 := Lib.hid (show (⟨q, bs t, xb, xn, xm⟩ : Mg).a.size ≤ 255 ∧ (⟨q, bs t, xb, xn, xm⟩ : Mg).b.size ≤ 255 from ⟨by rw [bs_size]; omega, HSZ.out.2⟩)
          have HKL2 : K ≤ n' := HKL.out
          clear hRD hrd hK hKi ht1 ht2
          obtain ⟨x0, x1, x2, x3, x4⟩ := HW.out.c
          have hf := HW.out.row.frozen 1
          have H9 := Lib.hid (HW.out.put (y := ⟨q, bs t, xb, xn, xm⟩) (c := c') 1 (.string ⟨t.toArray⟩) rfl K (by have := HL.out; omega))
          go_wp2_with (first | ((with_reducible refine calls_here ?_); refine HRD.out.mono ?_; rintro e w9 ⟨rfl, rfl⟩) | ((with_reducible refine wpList_here ?_); refine wpList_from rfl 24 (.tmp 45) (.tmp 46) rfl _ _ _ rfl rfl (slice_fr A' n' c' K HKL.out hnc _) ?_))
          go_meet
          case rel => exact ⟨bs t, xb, xn, xm, _, _, _, l'.drop K, rfl, Lib.hid (by rw [List.length_drop, HL.out]), by omega, by omega, by omega, HS2, H9, HN⟩
    clear HW HQ HSZ HL hnc hcm hnm HO0 E0
    obtain ⟨xa, xb, xn, xm, A', n', c', l', rfl, HL, hnc, hcm, hnm, HSZ, HW, HQ⟩ := hcut
    go_wp2_with fail
    refine (HO1.out _).mono ?_
    rintro e u1 ⟨rfl, rfl⟩
    go_upto_if 49 with (fail)
    go_cut [0] from 6 (fun v0 wx => ∃ (xa xb : ByteArray) (xn xm : Int) (A' : Option Addr) (n' c' : Nat) (l' : List UInt8), v0 = .slice A' n' c' ∧ Hid (l'.length = n') ∧ n' ≤ c' ∧ c' ≤ 9223372036854775807 ∧ n' ≤ 140737488355328 ∧ Hid (xa.size ≤ 255 ∧ xb.size ≤ 255) ∧ Hid (RgI w ⟨q, xa, xb, xn, xm⟩ A' l' wx) ∧ Hid (endW (goW q (4 - (1 + 1)) ⟨q, xa, xb, xn, xm⟩ l') = RR))
    case first =>
      cases h1 with
      | false =>
        have HQ2 := Lib.hid (show endW (goW q (4 - (1 + 1)) ⟨q, xa, xb, xn, xm⟩ l') = RR by rw [← goW_no (by omega) E1.out]; exact HQ.out)
        go_wp2_with fail
        go_meet
        case rel => exact ⟨xa, xb, xn, xm, A', n', c', l', rfl, HL, hnc, hcm, hnm, HSZ, HW, HQ2⟩
      | true =>
        have hrd := rread_ok A' l' n' c' wc (HW.out.rb.more HW.out.b.size) (by have := HL.out; omega) HL.out hnc hcm
        obtain ⟨RD, hRD⟩ : ∃ RD, readS l' = RD := ⟨_, rfl⟩
        rw [hRD] at hrd
        cases RD with
        | none =>
          simp only [readE] at hrd
          have HRD := Lib.hid hrd
          have HN := Lib.hid (show none = RR by rw [← HQ.out, goW_none (by omega) E1.out (by simp only [stepW]; rw [hRD]; rfl)]; rfl)
          clear hRD hrd
          go_wp2_with (first | ((with_reducible refine calls_here ?_); refine HRD.out.mono ?_; rintro e w9 ⟨rfl, rfl⟩) | ((with_reducible refine wpList_here ?_); refine wpList_store_row rfl 23 (.tmp 2) (.tmp 58) rfl w.heap.size (zeroM 0).cells rfl rfl 23 _ HW.out.res msg_size rfl (cells_one _) ?_))
          rw [HQP.out, ← HN.out]
          obtain ⟨q0, q1, q2, q3, q4⟩ := bk_msg (x := zeroM 0) (show Bk (wc.setRow w.heap.size #[.int .i64 0, .string ⟨#[]⟩, .string ⟨#[]⟩, .int .i64 0, .int .i64 0]) w.heap.size 23 _ from (HW.out.res).setRow _)
          simp only [zeroM, bs] at q0 q1 q2 q3 q4
          try simp only [zeroM_cells]
          have hB := Below.setRow (HW.out.b) w.heap.size (Nat.le_refl _) #[.int .i64 0, .string ⟨#[]⟩, .string ⟨#[]⟩, .int .i64 0, .int .i64 0]
          generalize wc.setRow w.heap.size #[.int .i64 0, .string ⟨#[]⟩, .string ⟨#[]⟩, .int .i64 0, .int .i64 0] = w2 at q0 q1 q2 q3 q4 hB ⊢
          exact bodyPost_ret (v := .tuple #[.agg #[.int .i64 0, .string ⟨#[]⟩, .string ⟨#[]⟩, .int .i64 0, .int .i64 0], .bool false]) (by simp [results, Tryd.results12, go_sem, q0, q1, q2, q3, q4]) rfl ⟨rfl, hB⟩
        | some t =>
          obtain ⟨ht1, ht2⟩ := readS_len hRD
          obtain ⟨K, hK⟩ : ∃ K, 1 + t.length = K := ⟨_, rfl⟩
          have hKi : (1 + (t.length : Int)) = (K : Int) := by omega
          simp only [readE] at hrd
          rw [hKi] at hrd
          rw [hK] at ht1
          have HRD := Lib.hid hrd
          have HN := Lib.hid (show endW (goW q (4 - (1 + 1)) ⟨q, xa, bs t, xn, xm⟩ (l'.drop K)) = RR by rw [← goW_some (x := ⟨q, xa, xb, xn, xm⟩) (l := l') (show 1 < 4 by omega) E1.out (by simp only [stepW]; rw [hRD]; rw [← hK]; rfl)]; exact HQ.out)
          have HKL := Lib.hid (show K ≤ n' by have := HL.out; omega)
          have HS2 := Lib.hid (show (⟨q, xa, bs t, xn, xm⟩ : Mg).a.size ≤ 255 ∧ (⟨q, xa, bs t, xn, xm⟩ : Mg).b.size ≤ 255 from ⟨HSZ.out.1, by rw [bs_size]; omega⟩)
          have HKL2 : K ≤ n' := HKL.out
          clear hRD hrd hK hKi ht1 ht2
          obtain ⟨x0, x1, x2, x3, x4⟩ := HW.out.c
          have hf := HW.out.row.frozen 2
          have H9 := Lib.hid (HW.out.put (y := ⟨q, xa, bs t, xn, xm⟩) (c := c') 2 (.string ⟨t.toArray⟩) rfl K (by have := HL.out; omega))
          go_wp2_with (first | ((with_reducible refine calls_here ?_); refine HRD.out.mono ?_; rintro e w9 ⟨rfl, rfl⟩) | ((with_reducible refine wpList_here ?_); refine wpList_from rfl 24 (.tmp 61) (.tmp 62) rfl _ _ _ rfl rfl (slice_fr A' n' c' K HKL.out hnc _) ?_))
          go_meet
          case rel => exact ⟨xa, bs t, xn, xm, _, _, _, l'.drop K, rfl, Lib.hid (by rw [List.length_drop, HL.out]), by omega, by omega, by omega, HS2, H9, HN⟩
    clear HW HQ HSZ HL hnc hcm hnm HO1 E1
    obtain ⟨xa, xb, xn, xm, A', n', c', l', rfl, HL, hnc, hcm, hnm, HSZ, HW, HQ⟩ := hcut
    go_wp2_with fail
    refine (HO2.out _).mono ?_
    rintro e u2 ⟨rfl, rfl⟩
    go_upto_if 65 with (fail)
    go_cut [0] from 6 (fun v0 wx => ∃ (xa xb : ByteArray) (xn xm : Int) (A' : Option Addr) (n' c' : Nat) (l' : List UInt8), v0 = .slice A' n' c' ∧ Hid (l'.length = n') ∧ n' ≤ c' ∧ c' ≤ 9223372036854775807 ∧ n' ≤ 140737488355328 ∧ Hid (xa.size ≤ 255 ∧ xb.size ≤ 255) ∧ Hid (RgI w ⟨q, xa, xb, xn, xm⟩ A' l' wx) ∧ Hid (endW (goW q (4 - (2 + 1)) ⟨q, xa, xb, xn, xm⟩ l') = RR))
    case first =>
      cases h2 with
      | false =>
        have HQ2 := Lib.hid (show endW (goW q (4 - (2 + 1)) ⟨q, xa, xb, xn, xm⟩ l') = RR by rw [← goW_no (by omega) E2.out]; exact HQ.out)
        go_wp2_with fail
        go_meet
        case rel => exact ⟨xa, xb, xn, xm, A', n', c', l', rfl, HL, hnc, hcm, hnm, HSZ, HW, HQ2⟩
      | true =>
        have hrd := rget_ok A' l' n' c' wc (HW.out.rb.more HW.out.b.size) (by have := HL.out; omega) HL.out
        obtain ⟨RD, hRD⟩ : ∃ RD, getS l' = RD := ⟨_, rfl⟩
        rw [hRD] at hrd
        cases RD with
        | none =>
          simp only [numE] at hrd
          have HRD := Lib.hid hrd
          have HN := Lib.hid (show none = RR by rw [← HQ.out, goW_none (by omega) E2.out (by simp only [stepW]; rw [hRD]; rfl)]; rfl)
          clear hRD hrd
          go_wp2_with (first | ((with_reducible refine calls_here ?_); refine HRD.out.mono ?_; rintro e w9 ⟨rfl, rfl⟩) | ((with_reducible refine wpList_here ?_); refine wpList_store_row rfl 23 (.tmp 2) (.tmp 74) rfl w.heap.size (zeroM 0).cells rfl rfl 23 _ HW.out.res msg_size rfl (cells_one _) ?_))
          rw [HQP.out, ← HN.out]
          obtain ⟨q0, q1, q2, q3, q4⟩ := bk_msg (x := zeroM 0) (show Bk (wc.setRow w.heap.size #[.int .i64 0, .string ⟨#[]⟩, .string ⟨#[]⟩, .int .i64 0, .int .i64 0]) w.heap.size 23 _ from (HW.out.res).setRow _)
          simp only [zeroM, bs] at q0 q1 q2 q3 q4
          try simp only [zeroM_cells]
          have hB := Below.setRow (HW.out.b) w.heap.size (Nat.le_refl _) #[.int .i64 0, .string ⟨#[]⟩, .string ⟨#[]⟩, .int .i64 0, .int .i64 0]
          generalize wc.setRow w.heap.size #[.int .i64 0, .string ⟨#[]⟩, .string ⟨#[]⟩, .int .i64 0, .int .i64 0] = w2 at q0 q1 q2 q3 q4 hB ⊢
          exact bodyPost_ret (v := .tuple #[.agg #[.int .i64 0, .string ⟨#[]⟩, .string ⟨#[]⟩, .int .i64 0, .int .i64 0], .bool false]) (by simp [results, Tryd.results12, go_sem, q0, q1, q2, q3, q4]) rfl ⟨rfl, hB⟩
        | some t =>
          obtain ⟨y, K⟩ := t
          obtain ⟨hk1, ht1, hy, _⟩ := get_is l' y K hRD
          simp only [numE] at hrd
          have HRD := Lib.hid hrd
          have HN := Lib.hid (show endW (goW q (4 - (2 + 1)) ⟨q, xa, xb, (y : Int), xm⟩ (l'.drop K)) = RR by rw [← goW_some (x := ⟨q, xa, xb, xn, xm⟩) (l := l') (show 2 < 4 by omega) E2.out (by simp only [stepW]; rw [hRD]; rfl)]; exact HQ.out)
          have HKL := Lib.hid (show K ≤ n' by have := HL.out; omega)
          have HS2 := Lib.hid (show (⟨q, xa, xb, (y : Int), xm⟩ : Mg).a.size ≤ 255 ∧ (⟨q, xa, xb, (y : Int), xm⟩ : Mg).b.size ≤ 255 from HSZ.out)
          have HKL2 : K ≤ n' := HKL.out
          clear hRD hrd hk1 ht1 hy
          obtain ⟨x0, x1, x2, x3, x4⟩ := HW.out.c
          have hf := HW.out.row.frozen 3
          have H9 := Lib.hid (HW.out.put (y := ⟨q, xa, xb, (y : Int), xm⟩) (c := c') 3 (.int .i64 (y : Int)) rfl K (by have := HL.out; omega))
          go_wp2_with (first | ((with_reducible refine calls_here ?_); refine HRD.out.mono ?_; rintro e w9 ⟨rfl, rfl⟩) | ((with_reducible refine wpList_here ?_); refine wpList_from rfl 24 (.tmp 77) (.tmp 78) rfl _ _ _ rfl rfl (slice_fr A' n' c' K HKL.out hnc _) ?_))
          go_meet
          case rel => exact ⟨xa, xb, y, xm, _, _, _, l'.drop K, rfl, Lib.hid (by rw [List.length_drop, HL.out]), by omega, by omega, by omega, HS2, H9, HN⟩
    clear HW HQ HSZ HL hnc hcm hnm HO2 E2
    obtain ⟨xa, xb, xn, xm, A', n', c', l', rfl, HL, hnc, hcm, hnm, HSZ, HW, HQ⟩ := hcut
    go_wp2_with fail
    refine (HO3.out _).mono ?_
    rintro e u3 ⟨rfl, rfl⟩
    go_upto_if 81 with (fail)
    go_cut [0] from 6 (fun v0 wx => ∃ (xa xb : ByteArray) (xn xm : Int) (A' : Option Addr) (n' c' : Nat) (l' : List UInt8), v0 = .slice A' n' c' ∧ Hid (l'.length = n') ∧ n' ≤ c' ∧ c' ≤ 9223372036854775807 ∧ n' ≤ 140737488355328 ∧ Hid (xa.size ≤ 255 ∧ xb.size ≤ 255) ∧ Hid (RgI w ⟨q, xa, xb, xn, xm⟩ A' l' wx) ∧ Hid (endW (goW q (4 - (3 + 1)) ⟨q, xa, xb, xn, xm⟩ l') = RR))
    case first =>
      cases h3 with
      | false =>
        have HQ2 := Lib.hid (show endW (goW q (4 - (3 + 1)) ⟨q, xa, xb, xn, xm⟩ l') = RR by rw [← goW_no (by omega) E3.out]; exact HQ.out)
        go_wp2_with fail
        go_meet
        case rel => exact ⟨xa, xb, xn, xm, A', n', c', l', rfl, HL, hnc, hcm, hnm, HSZ, HW, HQ2⟩
      | true =>
        have hrd := rget_ok A' l' n' c' wc (HW.out.rb.more HW.out.b.size) (by have := HL.out; omega) HL.out
        obtain ⟨RD, hRD⟩ : ∃ RD, getS l' = RD := ⟨_, rfl⟩
        rw [hRD] at hrd
        cases RD with
        | none =>
          simp only [numE] at hrd
          have HRD := Lib.hid hrd
          have HN := Lib.hid (show none = RR by rw [← HQ.out, goW_none (by omega) E3.out (by simp only [stepW]; rw [hRD]; rfl)]; rfl)
          clear hRD hrd
          go_wp2_with (first | ((with_reducible refine calls_here ?_); refine HRD.out.mono ?_; rintro e w9 ⟨rfl, rfl⟩) | ((with_reducible refine wpList_here ?_); refine wpList_store_row rfl 23 (.tmp 2) (.tmp 90) rfl w.heap.size (zeroM 0).cells rfl rfl 23 _ HW.out.res msg_size rfl (cells_one _) ?_))
          rw [HQP.out, ← HN.out]
          obtain ⟨q0, q1, q2, q3, q4⟩ := bk_msg (x := zeroM 0) (show Bk (wc.setRow w.heap.size #[.int .i64 0, .string ⟨#[]⟩, .string ⟨#[]⟩, .int .i64 0, .int .i64 0]) w.heap.size 23 _ from (HW.out.res).setRow _)
          simp only [zeroM, bs] at q0 q1 q2 q3 q4
          try simp only [zeroM_cells]
          have hB := Below.setRow (HW.out.b) w.heap.size (Nat.le_refl _) #[.int .i64 0, .string ⟨#[]⟩, .string ⟨#[]⟩, .int .i64 0, .int .i64 0]
          generalize wc.setRow w.heap.size #[.int .i64 0, .string ⟨#[]⟩, .string ⟨#[]⟩, .int .i64 0, .int .i64 0] = w2 at q0 q1 q2 q3 q4 hB ⊢
          exact bodyPost_ret (v := .tuple #[.agg #[.int .i64 0, .string ⟨#[]⟩, .string ⟨#[]⟩, .int .i64 0, .int .i64 0], .bool false]) (by simp [results, Tryd.results12, go_sem, q0, q1, q2, q3, q4]) rfl ⟨rfl, hB⟩
        | some t =>
          obtain ⟨y, K⟩ := t
          obtain ⟨hk1, ht1, hy, _⟩ := get_is l' y K hRD
          simp only [numE] at hrd
          have HRD := Lib.hid hrd
          have HN := Lib.hid (show endW (goW q (4 - (3 + 1)) ⟨q, xa, xb, xn, (y : Int)⟩ (l'.drop K)) = RR by rw [← goW_some (x := ⟨q, xa, xb, xn, xm⟩) (l := l') (show 3 < 4 by omega) E3.out (by simp only [stepW]; rw [hRD]; rfl)]; exact HQ.out)
          have HKL := Lib.hid (show K ≤ n' by have := HL.out; omega)
          have HS2 := Lib.hid (show (⟨q, xa, xb, xn, (y : Int)⟩ : Mg).a.size ≤ 255 ∧ (⟨q, xa, xb, xn, (y : Int)⟩ : Mg).b.size ≤ 255 from HSZ.out)
          have HKL2 : K ≤ n' := HKL.out
          clear hRD hrd hk1 ht1 hy
          obtain ⟨x0, x1, x2, x3, x4⟩ := HW.out.c
          have hf := HW.out.row.frozen 4
          have H9 := Lib.hid (HW.out.put (y := ⟨q, xa, xb, xn, (y : Int)⟩) (c := c') 4 (.int .i64 (y : Int)) rfl K (by have := HL.out; omega))
          go_wp2_with (first | ((with_reducible refine calls_here ?_); refine HRD.out.mono ?_; rintro e w9 ⟨rfl, rfl⟩) | ((with_reducible refine wpList_here ?_); refine wpList_from rfl 24 (.tmp 93) (.tmp 94) rfl _ _ _ rfl rfl (slice_fr A' n' c' K HKL.out hnc _) ?_))
          go_meet
          case rel => exact ⟨xa, xb, xn, y, _, _, _, l'.drop K, rfl, Lib.hid (by rw [List.length_drop, HL.out]), by omega, by omega, by omega, HS2, H9, HN⟩
    clear HW HQ HSZ HL hnc hcm hnm HO3 E3
    obtain ⟨xa, xb, xn, xm, A', n', c', l', rfl, HL, hnc, hcm, hnm, HSZ, HW, HQ⟩ := hcut
    have HQ4 := Lib.hid (show (if l' = [] ∧ rightM ⟨q, xa, xb, xn, xm⟩ = true then some (⟨q, xa, xb, xn, xm⟩ : Mg) else none) = RR from HQ.out)
    clear HQ
    obtain ⟨x0, x1, x2, x3, x4⟩ := HW.out.c
    by_cases h0 : n' = 0
    · have hl0 : l' = [] := List.eq_nil_of_length_eq_zero (by rw [HL.out]; exact h0)
      obtain ⟨rb, hrb⟩ : ∃ rb, rightM ⟨q, xa, xb, xn, xm⟩ = rb := ⟨_, rfl⟩
      have HRT := Lib.hid (rright_ok ⟨q, xa, xb, xn, xm⟩ wc (Nat.le_trans HSZ.out.1 (by omega)) (Nat.le_trans HSZ.out.2 (by omega)))
      rw [hrb] at HRT HQ4
      have HLN := Lib.hid hl0
      subst h0
      clear hrb hl0
      cases rb with
      | false =>
        have HN := Lib.hid (show none = RR by rw [← HQ4.out]; simp)
        clear HQ4
        go_wp2_with (first | ((with_reducible refine calls_here ?_); refine HRT.out.mono ?_; rintro e w9 ⟨rfl, hb9⟩; have H9 := Lib.hid (HW.out.on hb9); clear hb9; obtain ⟨y0, y1, y2, y3, y4⟩ := H9.out.c) | ((with_reducible refine wpList_here ?_); refine wpList_store_row rfl 23 (.tmp 2) (.tmp 104) rfl w.heap.size (zeroM 0).cells rfl rfl 23 _ H9.out.res msg_size rfl (cells_one _) ?_))
        rw [HQP.out, ← HN.out]
        obtain ⟨q0, q1, q2, q3, q4⟩ := bk_msg (x := zeroM 0) (show Bk (w9.setRow w.heap.size #[.int .i64 0, .string ⟨#[]⟩, .string ⟨#[]⟩, .int .i64 0, .int .i64 0]) w.heap.size 23 _ from (H9.out.res).setRow _)
        simp only [zeroM, bs] at q0 q1 q2 q3 q4
        try simp only [zeroM_cells]
        have hB := Below.setRow (H9.out.b) w.heap.size (Nat.le_refl _) #[.int .i64 0, .string ⟨#[]⟩, .string ⟨#[]⟩, .int .i64 0, .int .i64 0]
        generalize w9.setRow w.heap.size #[.int .i64 0, .string ⟨#[]⟩, .string ⟨#[]⟩, .int .i64 0, .int .i64 0] = w2 at q0 q1 q2 q3 q4 hB ⊢
        exact bodyPost_ret (v := .tuple #[.agg #[.int .i64 0, .string ⟨#[]⟩, .string ⟨#[]⟩, .int .i64 0, .int .i64 0], .bool false]) (by simp [results, Tryd.results12, go_sem, q0, q1, q2, q3, q4]) rfl ⟨rfl, hB⟩
      | true =>
        have HN := Lib.hid (show some (⟨q, xa, xb, xn, xm⟩ : Mg) = RR by rw [← HQ4.out, if_pos ⟨HLN.out, rfl⟩])
        clear HQ4
        go_wp2_with (first | ((with_reducible refine calls_here ?_); refine HRT.out.mono ?_; rintro e w9 ⟨rfl, hb9⟩; have H9 := Lib.hid (HW.out.on hb9); clear hb9; obtain ⟨y0, y1, y2, y3, y4⟩ := H9.out.c) | ((with_reducible refine wpList_here ?_); refine wpList_store_row rfl 23 (.tmp 2) (.tmp 105) rfl w.heap.size (Mg.cells ⟨q, xa, xb, xn, xm⟩) rfl rfl 23 _ H9.out.res msg_size rfl (cells_one _) ?_))
        rw [HQP.out, ← HN.out]
        obtain ⟨q0, q1, q2, q3, q4⟩ := bk_msg (x := ⟨q, xa, xb, xn, xm⟩) (show Bk (w9.setRow w.heap.size #[.int .i64 (q : Int), .string xa, .string xb, .int .i64 xn, .int .i64 xm]) w.heap.size 23 _ from (H9.out.res).setRow _)
        simp only at q0 q1 q2 q3 q4
        try simp only [Mg.cells]
        have hB := Below.setRow (H9.out.b) w.heap.size (Nat.le_refl _) #[.int .i64 (q : Int), .string xa, .string xb, .int .i64 xn, .int .i64 xm]
        generalize w9.setRow w.heap.size #[.int .i64 (q : Int), .string xa, .string xb, .int .i64 xn, .int .i64 xm] = w8 at q0 q1 q2 q3 q4 hB ⊢
        exact bodyPost_ret (v := .tuple #[.agg #[.int .i64 (q : Int), .string xa, .string xb, .int .i64 xn, .int .i64 xm], .bool true]) (by simp [results, Tryd.results12, go_sem, q0, q1, q2, q3, q4]) rfl ⟨rfl, hB⟩
    · have HN := Lib.hid (show none = RR by rw [← HQ4.out, if_neg (by rintro ⟨h, _⟩; rw [h] at HL; exact h0 HL.out.symm)])
      have hpos : (0 : Int) < (n' : Int) := by omega
      clear HQ4
      go_wp2_with ((with_reducible refine wpList_here ?_); refine wpList_store_row rfl 23 (.tmp 2) (.tmp 104) rfl w.heap.size (zeroM 0).cells rfl rfl 23 _ HW.out.res msg_size rfl (cells_one _) ?_)
      rw [HQP.out, ← HN.out]
      obtain ⟨q0, q1, q2, q3, q4⟩ := bk_msg (x := zeroM 0) (show Bk (wc.setRow w.heap.size #[.int .i64 0, .string ⟨#[]⟩, .string ⟨#[]⟩, .int .i64 0, .int .i64 0]) w.heap.size 23 _ from (HW.out.res).setRow _)
      simp only [zeroM, bs] at q0 q1 q2 q3 q4
      try simp only [zeroM_cells]
      have hB := Below.setRow (HW.out.b) w.heap.size (Nat.le_refl _) #[.int .i64 0, .string ⟨#[]⟩, .string ⟨#[]⟩, .int .i64 0, .int .i64 0]
      generalize wc.setRow w.heap.size #[.int .i64 0, .string ⟨#[]⟩, .string ⟨#[]⟩, .int .i64 0, .int .i64 0] = w2 at q0 q1 q2 q3 q4 hB ⊢
      exact bodyPost_ret (v := .tuple #[.agg #[.int .i64 0, .string ⟨#[]⟩, .string ⟨#[]⟩, .int .i64 0, .int .i64 0], .bool false]) (by simp [results, Tryd.results12, go_sem, q0, q1, q2, q3, q4]) rfl ⟨rfl, hB⟩
end Go.Proofs.YtimhjmeebahdaaaDoor
