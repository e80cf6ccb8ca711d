/- frame.frames, and its iterator: their contracts. -/
import Derived.RangeFuncNested
import Derived.RangeFuncBound
import Derived.RangeFuncCalls
import Derived.RangeFuncLeaves
import Derived.Shelf.Abstract
import Derived.Shelf.RegionOpen
import Derived.WalkKit
import Derived.OwnWalkIn
import Derived.TacticsInMore
import Derived.LoopNIn
import Derived.LoopIn
import Derived.Test.YtcmcmbgdakcmmaaFr2
import Derived.Test.YtcmcmbgdakcmmaaRangeMem
import Derived.Test.YtcmcmbgdakcmmaaTailIn
namespace Go.Proofs.Ytcmcmbgdakcmmaa
set_option linter.unusedVariables false
set_option linter.unusedSimpArgs false
open Go.RowKit Go.Shelf
attribute [local go_sem] Oper.semAt_some

/-- What the iterator hands over: a slice of bytes, and an error. -/
structure Fr where
  A : Option Addr
  c : Nat
  l : List UInt8
  e : Nat
  small : l.length ≤ 200
abbrev fcs (x : Fr) : Array Value := #[.slice x.A x.l.length x.c, .int .i64 (x.e : Int)]
/-- What is told of it in each round. -/
def Told (B : Nat) (x : Fr) (W : World) : Prop := El W B x.A x.c x.l
theorem told_own (B B' : Nat) : OwnFrom B' (Told B) := fun x W W' row hs hg hr => El.own B B' x.A x.c x.l () W W' row hs hg hr
def meaF : Value → Nat
  | .slice _ n _ => n
  | _ => 0
theorem grown_of_below {w w' : World} (h : Below w.heap.size w w') : w.grownBy w' none := ⟨h.os, h.tape, h.output, h.size, fun k hk _ => h.block k hk⟩
def allF (l : List UInt8) (xs : List Fr) : Prop := (xs.map (·.l) = cutF l ∧ (∀ x ∈ xs, x.e = 0) ∧ begB (restF l) = true) ∨ ∃ x ∈ xs, x.e ≠ 0
def someF (l : List UInt8) (pre : List Fr) : Prop := (∀ x ∈ pre, x.e = 0) ∨ ∃ ys x, pre = ys ++ [x] ∧ ys.map (·.l) = cutF l ∧ (∀ y ∈ ys, y.e = 0) ∧ x.e = 61 ∧ begB (restF l) = false

theorem frames_ok (A : Option Addr) (m c : Nat) (w : World) : Calls Try.prog 20 #[.slice A m c] w fun e w' => e = .returned (.func (.func 22) #[] #[.pointer (some ⟨w.heap.size, 0, none⟩)]) ∧ w' = w.alloc (.cells #[.slice A m c] 22) := by
  go_enter Try.func20, Try.ntmps20
  go_wp2_with fail
  go_ret
  exact ⟨rfl, rfl⟩

set_option maxRecDepth 100000 in
set_option maxHeartbeats 2000000 in
theorem frames1_reads (n : Nat) (hn : 2 ≤ n) (n0 Bb B : Nat) (A : Option Addr) (m c : Nat) (l : List UInt8) (w : World) (hbox : Bk w Bb 22 #[.slice A m c]) (hn0 : n0 ≤ w.heap.size) (hl : l.length = m) (hc : m ≤ c) (hmax : c ≤ 9223372036854775807) (hR : Rb w n0 A l) :
    SeqReads Fence.wide n Try.prog 22 #[.pointer (some ⟨Bb, 0, none⟩)] fcs (Told B) (Below n0) (allF l) (someF l) ((cutF l).length + 1) w := fun lp J Jx W hW hJ hJx hY h0 => by
  refine callsIn_of_wp Try.func22 rfl trivial ?_ rfl
  simp only [Try.ntmps22, List.size_toArray, List.length_cons, List.length_nil, Nat.reduceAdd, Nat.reduceSub, Array.replicate_succ, Array.replicate_zero, List.push_toArray, List.append_toArray, List.nil_append, List.cons_append]
  have hc1 : W.cell? ⟨Bb, 0, none⟩ = some (.slice A m c) := by rw [(hbox.below hW hbox.lt).cell]; rfl
  have HR0 := Lib.hid (show Rb W n0 A l from hR.below hW hn0)
  have HZ := Lib.hid (show n0 ≤ W.heap.size from Nat.le_trans hn0 hW.size)
  have HL := Lib.hid hl
  clear hR hl hbox hW
  gi_wp2
  clear hc1
  gi_loopw [3] (fun v3 wr => ∃ (pre : List Fr) (r : List UInt8) (A3 : Option Addr) (m3 c3 : Nat), v3 = .slice A3 m3 c3 ∧ m3 ≤ c3 ∧ c3 ≤ 9223372036854775807 ∧ Hid (r.length = m3) ∧ Hid (Rb wr n0 A3 r) ∧ Hid (cutF l = pre.map (·.l) ++ cutF r ∧ restF l = restF r) ∧ Hid (∀ x ∈ pre, x.e = 0) ∧ Hid (J pre wr) ∧ Hid (n0 ≤ wr.heap.size)) (fun v3 wr => meaF v3)
  case atStart =>
    exact ⟨[], l, A, m, c, rfl, hc, hmax, HL, HR0, Lib.hid ⟨rfl, rfl⟩, Lib.hid (fun x h => by cases h), Lib.hid h0, HZ⟩
  case round =>
    obtain ⟨pre, r, A3, m3, c3, rfl, h1, h2, HL3, HR3, HC, HE, HJ, HZ3⟩ := hrel
    have HF := Lib.hid (first_ok A3 m3 c3 r wr HL3.out h1 h2 (HR3.out.more HZ3.out))
    have hn1 : 1 ≤ n := by omega
    have hn2 : 1 ≤ n - 1 := by omega
    have hlen : pre.length < (cutF l).length + 1 := by
      have := congrArg List.length HC.out.1
      rw [List.length_append, List.length_map] at this
      omega
    cases hb : begB r with
    | false =>
      have hl0 := beg_none r hb
      rw [hl0, part_nil r hl0, err_bad r hb] at HF
      have HCE := Lib.hid (show cutF l = pre.map (·.l) ∧ begB (restF l) = false from ⟨by rw [HC.out.1, cut_nil r hl0, List.append_nil], by rw [HC.out.2, (done_nil r hl0).2]; exact hb⟩)
      have HYY := Lib.hid (fun w2 (h : Below wr.heap.size wr w2) => (show YieldAt Fence.wide (n - 1) Try.prog lp #[.slice none 0 0, .int .i64 61] w2 _ from hY pre (⟨none, 0, [], 61, by simp⟩ : Fr) w2 (hJ _ _ _ none HJ.out (grown_of_below h) (fun r e => by cases e)) (show El w2 B none 0 [] from El.nil _ _) hlen))
      clear hb hl0 hlen HC
      gi_wp2_with (refine ⟨trivial, ?_⟩; gi_at_call 10; refine (callsIn_wide.2 HF.out).mono ?_; rintro e w2 ⟨A5, c5, rfl, ho, hnn, hb2⟩; obtain ⟨fn, tmps, assign, body, hy, hR⟩ := HYY.out _ hb2)
      refine hR.mono ?_
      clear hy hR
      rintro e W2 (⟨rfl, hJ2, hk2⟩ | ⟨rfl, hJx2⟩)
      · gi_wp2
        refine bodyPost_ret (results_none rfl _ _ _) rfl ?_
        exact ⟨⟨_, rfl⟩, .inl ⟨_, .inr ⟨_, List.mem_append.2 (.inr (List.mem_singleton.2 rfl)), by decide⟩, hJ2⟩⟩
      · gi_wp2
        refine bodyPost_ret (results_none rfl _ _ _) rfl ?_
        exact ⟨⟨_, rfl⟩, .inr ⟨_, .inr ⟨pre, _, rfl, HCE.out.1.symm, HE.out, rfl, HCE.out.2⟩, hJx2⟩⟩
    | true =>
      rw [err_ok r hb] at HF
      by_cases hl0 : lenF r = 0
      · rw [hl0, part_nil r hl0] at HF
        have HCE := Lib.hid (show cutF l = pre.map (·.l) ∧ begB (restF l) = true from ⟨by rw [HC.out.1, cut_nil r hl0, List.append_nil], by rw [HC.out.2, (done_nil r hl0).2]; exact hb⟩)
        clear hb hl0 hlen HC
        gi_wp2_with (refine ⟨trivial, ?_⟩; gi_at_call 10; refine (callsIn_wide.2 HF.out).mono ?_; rintro e w2 ⟨A5, c5, rfl, ho, hnn, hb2⟩; have HB2 := Lib.hid hb2; clear hb2)
        refine ⟨fun _ h => (by cases h), ?_⟩
        gi_wp2
        refine bodyPost_ret (results_none rfl _ _ _) rfl ?_
        exact ⟨⟨_, rfl⟩, .inl ⟨pre, .inl ⟨HCE.out.1.symm, HE.out, HCE.out.2⟩, hJ _ _ _ none HJ.out (grown_of_below HB2.out) (fun r e => by cases e)⟩⟩
      · obtain ⟨hf, hq, _⟩ := len_pos r hl0
        have hle := len_le r
        have h3 := len_ge r hl0
        have hsm := part_len_le r
        have HC2 := Lib.hid (show ∀ x : Fr, x.l = partF r → cutF l = (pre ++ [x]).map (·.l) ++ cutF (r.drop (lenF r)) ∧ restF l = restF (r.drop (lenF r)) from fun x hx => ⟨by
          rw [HC.out.1, cut_cons r hl0, List.map_append, List.append_assoc]
          simp [hx], by rw [HC.out.2, (done_cons r hl0).2]⟩)
        obtain ⟨x, hx⟩ : ∃ x, x = partF r := ⟨_, rfl⟩
        obtain ⟨q, hq2⟩ : ∃ q, q = lenF r := ⟨_, rfl⟩
        rw [← hq2] at hq hle h3 HF HC2
        rw [← hx] at hq HF HC2 hsm
        have hxl : x.length = q - 2 := by omega
        rw [hxl] at HF
        obtain ⟨k, hk⟩ : ∃ k, k = q - 2 := ⟨_, rfl⟩
        rw [← hk] at hxl HF
        have eq0 : ((q : Int) == 0) = false := by rw [beq_eq_false_iff_ne]; omega
        have hqm : q ≤ m3 := by have := HL3.out; omega
        have HXL := Lib.hid hxl
        have HYY := Lib.hid (fun w2 A5 c5 (h : Below wr.heap.size wr w2) (hel : El w2 B A5 c5 x) => (show YieldAt Fence.wide (n - 1) Try.prog lp #[.slice A5 k c5, .int .i64 0] w2 _ from by
          have := hY pre (⟨A5, c5, x, 0, hsm⟩ : Fr) w2 (hJ _ _ _ none HJ.out (grown_of_below h) (fun r e => by cases e)) hel hlen
          dsimp only [fcs] at this
          rw [hxl] at this
          exact this))
        have HSL := Lib.hid (fun u => slice_fr A3 m3 c3 q hqm h1 u)
        clear hb hl0 hlen HC hf hq hle hx hq2 hk hxl
        gi_wp2_with (refine ⟨trivial, ?_⟩; gi_at_call 10; refine (callsIn_wide.2 HF.out).mono ?_; rintro e w2 ⟨A5, c5, rfl, ho, hnn, hb2⟩; have HZZ := Lib.hid (Nat.le_trans HZ3.out hb2.size); have HR5 := Lib.hid (HR3.out.below hb2 HZ3.out); obtain ⟨fn, tmps, assign, body, hy, hR⟩ := HYY.out w2 A5 c5 hb2 (ho.el hnn))
        refine hR.mono ?_
        clear hy hR
        have HHS := Lib.hid (show ∀ y ∈ pre ++ [(⟨A5, c5, x, 0, hsm⟩ : Fr)], y.e = 0 from fun y hy => by
          rcases List.mem_append.1 hy with h | h
          · exact HE.out y h
          · rw [List.mem_singleton.1 h])
        rintro e W2 (⟨rfl, hJ2, hk2⟩ | ⟨rfl, hJx2⟩)
        · have HJ2 := Lib.hid hJ2
          have HRN := Lib.hid (show Rb W2 n0 (tailA A3 c3 q) (r.drop q) from (HR5.out.below hk2 (Nat.le_refl _)).tail q (by rw [HL3.out]; exact h1))
          have HZ4 := Lib.hid (Nat.le_trans HZZ.out hk2.size)
          clear hJ2 hk2 ho hnn hb2
          gi_wp2_with ((with_reducible refine wpListIn_here ?_); refine wpListIn_from rfl 22 (.tmp 27) (.tmp 28) rfl _ _ _ rfl rfl (HSL.out _) ?_)
          go_roundw
          case rel => exact ⟨_, r.drop q, _, _, _, rfl, by omega, by omega, Lib.hid (by rw [List.length_drop, HL3.out]), HRN, Lib.hid (HC2.out _ rfl), HHS, HJ2, HZ4⟩
          case measure => simp [meaF]; omega
        · gi_wp2
          refine bodyPost_ret (results_none rfl _ _ _) rfl ?_
          exact ⟨⟨_, rfl⟩, .inr ⟨_, .inl HHS.out, hJx2⟩⟩
end Go.Proofs.Ytcmcmbgdakcmmaa
