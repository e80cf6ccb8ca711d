/- syntax.pieces$1, the iterator: its contract. -/
import Derived.RangeFuncNested
import Derived.RangeFuncBound
import Derived.RangeFuncCalls
import Derived.RangeFuncLeaves
import Derived.Shelf.Abstract
import Derived.Shelf.RegionOpen
import Derived.WalkKit
import Derived.OwnWalkIn
import Derived.TacticsInMore
import Derived.LoopNIn
import Derived.LoopIn
import Derived.Test.YtmdijhfkobcbjaaSyn4
namespace Go.Proofs.Ytmdijhfkobcbjaa
set_option linter.unusedVariables false
set_option linter.unusedSimpArgs false
open Go.RowKit Go.Shelf
attribute [local go_sem] Oper.semAt_some

/-- A piece with its place. -/
abbrev Pc := { p : Nat × ByteArray // p.2.size ≤ 140737488355328 }
abbrev pcs (x : Pc) : Array Value := #[.int .i64 (x.1.1 : Int), .string x.1.2]
/-- What a round must keep: the blocks of the iterator's own variables. -/
def Kp2 (B : Nat) (W W' : World) : Prop := W'.heap[B]? = W.heap[B]? ∧ W'.heap[B + 1]? = W.heap[B + 1]?
theorem Kp2.t {B : Nat} {X Y Z : World} (h : Kp2 B X Y) (k : Kp2 B Y Z) : Kp2 B X Z := ⟨k.1.trans h.1, k.2.trans h.2⟩
def meaP : Value → Value → Nat
  | .string s, .bool true => s.size + 1
  | _, _ => 0

set_option maxRecDepth 100000 in
set_option maxHeartbeats 2000000 in
theorem pieces1_stops (n : Nat) (hn : 2 ≤ n) (B : Nat) (s : ByteArray) (c : UInt8) (w : World) (h1 : Bk w B 9 #[.string s]) (h2 : Bk w (B + 1) 9 #[.string ⟨#[c]⟩]) (hs : s.size ≤ 140737488355328) :
    SeqStopsK Fence.wide n Try.prog 36 #[.pointer (some ⟨B, 0, none⟩), .pointer (some ⟨B + 1, 0, none⟩)] pcs (Kp2 B)
      (fun xs => xs.map (·.1) = ixs 0 (piecesL c s.data.toList)) (fun pre => pre.map (·.1) <+: ixs 0 (piecesL c s.data.toList)) (piecesL c s.data.toList).length w := fun l J Jx W hW hJ hJx hY h0 => by
  refine callsIn_of_wp Try.func36 rfl trivial ?_ rfl
  simp only [Try.ntmps36, List.size_toArray, List.length_cons, List.length_nil, Nat.reduceAdd, Nat.reduceSub, Array.replicate_succ, Array.replicate_zero, List.push_toArray, List.append_toArray, List.nil_append, List.cons_append]
  have hc1 : W.cell? ⟨B, 0, none⟩ = some (.string s) := by rw [(h1.below hW h1.lt).cell]; rfl
  have hk2 : Bk W (B + 1) 9 #[.string ⟨#[c]⟩] := h2.below hW h2.lt
  have HK2 := Lib.hid hk2
  clear hk2
  gi_wp2
  clear hc1
  gi_loopw [4, 5, 6] (fun v4 v5 v6 wr => ∃ (pre : List Pc) (rest : List UInt8) (more : Bool), v4 = .string (bs rest) ∧ v5 = .bool more ∧ v6 = .int .i64 (pre.length : Int) ∧ Hid (ixs 0 (piecesL c s.data.toList) = pre.map (·.1) ++ ixs pre.length (if more = true then piecesL c rest else [])) ∧ rest.length ≤ s.size ∧ Hid (J pre wr) ∧ Hid (Bk wr (B + 1) 9 #[.string ⟨#[c]⟩])) (fun v4 v5 _ wr => meaP v4 v5)
  case atStart =>
    exact ⟨[], s.data.toList, true, by rw [bs_of], rfl, rfl, Lib.hid rfl, Nat.le_refl _, Lib.hid h0, HK2⟩
  case round =>
    obtain ⟨pre, rest, more, rfl, rfl, rfl, HE, hr, HJ, HM⟩ := hrel
    cases more with
    | false =>
      simp only [Bool.false_eq_true, if_false, ixs, List.append_nil] at HE
      gi_wp2
      go_end0
      exact ⟨⟨_, rfl⟩, .inl ⟨pre, HE.out.symm, HJ.out⟩⟩
    | true =>
      simp only [if_true] at HE
      have hE := HE.out
      rw [pieces_cut c rest] at hE
      obtain ⟨p, q, m, hc⟩ : ∃ p q m, cutL c rest = (p, q, m) := ⟨_, _, _, rfl⟩
      rw [hc] at hE
      simp only at hE
      have hlen : pre.length < (piecesL c s.data.toList).length := by
        have := congrArg List.length hE
        rw [ixs_len, List.length_append, List.length_map, ixs, List.length_cons] at this
        omega
      have hsz := cutL_len c rest
      rw [hc] at hsz
      simp only at hsz
      have HLT := Lib.hid (fun hm : m = true => cutL_lt c rest (by rw [hc]; exact hm))
      rw [hc] at HLT
      simp only at HLT
      have hcut := Lib.hid (fun u => cut_ok (bs rest) c u (by rw [bs_size]; omega))
      have hV : cutV c (bs rest) = .tuple #[.string (bs p), .string (bs q), .bool m] := by unfold cutV; rw [bs_data, hc]
      rw [hV] at hcut
      have hmark : wr.cell? ⟨B + 1, 0, none⟩ = some (.string ⟨#[c]⟩) := by rw [HM.out.cell]; rfl
      obtain ⟨P, hP⟩ : ∃ P, P = bs p := ⟨_, rfl⟩
      have hPs : P.size ≤ 140737488355328 := by rw [hP, bs_size]; omega
      rw [← hP] at hcut
      have HE2 := Lib.hid (show ixs 0 (piecesL c s.data.toList) = (pre ++ [(⟨(pre.length, P), hPs⟩ : Pc)]).map (·.1) ++ ixs (pre ++ [(⟨(pre.length, P), hPs⟩ : Pc)]).length (if m = true then piecesL c q else []) by
        rw [hE, ixs, ← hP, List.map_append, List.length_append, List.append_assoc]; rfl)
      have HPL := Lib.hid (show (pre ++ [(⟨(pre.length, P), hPs⟩ : Pc)]).length = pre.length + 1 by simp)
      have HYY := Lib.hid (fun k => hY pre (⟨(pre.length, P), hPs⟩ : Pc) (wr.drewN k) (hJ _ _ _ none HJ.out ⟨rfl, rfl, rfl, Nat.le_refl _, fun _ _ _ => rfl⟩ (fun r e => by cases e)) hlen)
      have HQS := Lib.hid (show (bs q).size < (bs rest).size ∨ m = false by
        rcases Bool.eq_false_or_eq_true m with hm | hm
        · have := HLT.out hm; left; rw [bs_size, bs_size]; exact this
        · exact .inr hm)
      have hq2 := hsz.2
      have hn0 : 1 ≤ n := by omega
      have hpb : pre.length ≤ 140737488355328 := by have := pieces_len c s.data.toList; have e : s.data.toList.length = s.size := rfl; omega
      have hn1 : 1 ≤ n - 1 := by omega
      clear hE hc hV hP HLT hsz HE
      gi_wp2_with (refine ⟨trivial, ?_⟩; gi_at_call 37; refine (callsIn_wide.2 (hcut.out _)).mono ?_; rintro e w' ⟨rfl, k, rfl⟩; obtain ⟨fn, tmps, assign, body, hy, hR⟩ := HYY.out k; dsimp only [pcs] at hy)
      refine hR.mono ?_
      clear hy hR
      rintro e W2 (⟨rfl, hJ2, hk2⟩ | ⟨rfl, hJx2⟩)
      · have HJ2 := Lib.hid hJ2
        have HM2 := Lib.hid (show Bk W2 (B + 1) 9 #[.string ⟨#[c]⟩] from hk2.2.trans HM.out)
        clear hJ2 hk2
        gi_wp2
        go_roundw
        case rel => exact ⟨_, q, m, rfl, rfl, by rw [HPL.out]; go_num, HE2, by omega, HJ2, HM2⟩
        case measure =>
          simp only [meaP]
          rcases HQS.out with h | h
          · cases m <;> simp [meaP]; omega
          · rw [h]; simp [meaP]
      · gi_wp2
        refine bodyPost_ret (results_none rfl _ _ _) rfl ?_
        refine ⟨⟨_, rfl⟩, .inr ⟨_, ?_, hJx2⟩⟩
        rw [HE2.out]
        exact List.prefix_append _ _
end Go.Proofs.Ytmdijhfkobcbjaa
