/- SRef1, Syn5, Syn6, SRef4: texts of this seat, one behind the other. -/
import Derived.Test.YtekobdmlgbffnaaGreatDoorG2
import Derived.Test.YtekobdmlgbffnaaGreatDoorG3
import Derived.Test.YtekobdmlgbffnaaGreatDoorG9
import Derived.RangeFuncNested
import Derived.RangeFuncBound
import Derived.RangeFuncCalls
import Derived.RangeFuncLeaves
import Derived.Shelf.Abstract
import Derived.Shelf.RegionOpen
import Derived.WalkKit
import Derived.OwnWalkIn
import Derived.TacticsInMore
import Derived.LoopNIn
import Derived.LoopIn
import Derived.ScopeJumps
import Derived.RangeFuncBox
import Derived.Test.YtekobdmlgbffnaaGreatDoorG8
import Derived.BigGuard
/- The document's own: head, Right, cut: their contracts. -/
namespace Go.Proofs.YtekobdmlgbffnaaGreatDoor
set_option linter.unusedVariables false
set_option maxRecDepth 100000
set_option linter.unusedSimpArgs false
open Go.RowKit

set_option maxHeartbeats 400000 in
theorem rhead_ok (bits a : Nat) (w : World) (hb : bits ≤ 32) (ha : a < 4294967296) :
    Calls Tryz.prog 117 #[.int .u32 a, .int .i64 bits] w fun e w' => e = .returned (.int .u32 (firstN bits a)) ∧ w = w' := by
  by_cases h0 : bits = 0
  · subst h0
    rw [first_none a ha]
    go_enter Tryz.func117, Tryz.ntmps117
    go_wp2
    go_ret
    exact ⟨rfl, rfl⟩
  · have h1 : ((bits : Int) == 0) = false := by rw [beq_eq_false_iff_ne]; omega
    go_enter Tryz.func117, Tryz.ntmps117
    go_wp2
    rw [first_cast bits a ha]
    go_ret
    exact ⟨rfl, rfl⟩
theorem rhead_q (bits a : Nat) (w : World) (hb : bits ≤ 32) (ha : a < 4294967296) :
    Calls Tryz.prog 117 #[.int .u32 a, .int .i64 bits] w fun e w' => e = .returned (.int .u32 (firstN bits a)) ∧ ∃ m, w' = w.drewN m :=
  (rhead_ok bits a w hb ha).mono fun e w' ⟨h1, h2⟩ => ⟨h1, 0, h2.symm⟩

set_option maxHeartbeats 1000000 in
theorem rright_ok (a : Nat) (bits : Int) (w : World) (ha : a < 4294967296) :
    Calls Tryz.prog 88 #[.agg #[.int .u32 a, .int .i64 bits]] w fun e w' => e = .returned (.bool (rightB a bits)) ∧ Below w.heap.size w w' := by
  have hbel : ∀ n, Below w.heap.size w ((w.alloc (.cells #[.int .u32 a, .int .i64 bits] 85)).drewN n) := fun n => below_drewN ((Below.refl _ _).alloc (Nat.le_refl _) _) n
  have HB := Lib.hid hbel
  clear hbel
  by_cases h0 : 0 ≤ bits
  · by_cases h1 : bits ≤ 32
    · obtain ⟨b, rfl⟩ := Int.eq_ofNat_of_zero_le h0
      have hb : b ≤ 32 := by omega
      have hr : rightB a b = decide (firstN b a = a) := by
        have e1 : decide ((0 : Int) ≤ (b : Int)) = true := by simp
        have e2 : decide ((b : Int) ≤ 32) = true := by simp; omega
        unfold rightB
        rw [e1, e2]; simp
      rw [hr]
      clear hr h0
      have hd1 : decide ((0 : Int) ≤ (b : Int)) = true := by simp
      have hd2 : decide ((b : Int) ≤ 32) = true := by simp; omega
      have HE := Lib.hid (cast_eq (firstN b a) a)
      go_enter Tryz.func88, Tryz.ntmps88
      go_wp2
      go_quiet (((go_at_call 117; with_reducible exact Calls.quiet_of (rhead_q b a _ hb ha))))
      go_wp2
      go_ret
      exact ⟨by rw [← HE.out]; rfl, HB.out _⟩
    · have hr : rightB a bits = false := by simp [rightB, h1]
      rw [hr]
      clear hr
      have hd1 : decide ((0 : Int) ≤ bits) = true := by simpa using h0
      have hd2 : decide (bits ≤ 32) = false := by simpa using h1
      go_enter Tryz.func88, Tryz.ntmps88
      go_wp2
      go_quiet (fail)
      go_wp2
      go_ret
      exact ⟨rfl, HB.out _⟩
  · have hr : rightB a bits = false := by simp [rightB, h0]
    rw [hr]
    clear hr
    have hd1 : decide ((0 : Int) ≤ bits) = false := by simpa using h0
    go_enter Tryz.func88, Tryz.ntmps88
    go_wp2
    go_quiet (fail)
    go_wp2
    go_ret
    exact ⟨rfl, HB.out _⟩

theorem cut_step (c : UInt8) (l : List UInt8) (i : Nat) (h : i < l.length) (x : UInt8) (hx : l.getD i 0 = x) : l.drop i = x :: l.drop (i + 1) ∧ l.take (i + 1) = l.take i ++ [x] := by
  have e : l[i] = x := by rw [← hx, List.getD, List.getElem?_eq_getElem h]; rfl
  exact ⟨by rw [List.drop_eq_getElem_cons h, e], by rw [List.take_succ_eq_append_getElem h, e]⟩

set_option maxHeartbeats 1000000 in
theorem rcut_ok (s : ByteArray) (c : UInt8) (w : World) (hs : s.size ≤ 140737488355328) :
    Calls Tryz.prog 113 #[.string s, .int .u8 (c.toNat : Int)] w fun e w' => e = .returned (cutV c s) ∧ ∃ n, w' = w.drewN n := by
  obtain ⟨R, hR⟩ : ∃ R, cutV c s = R := ⟨_, rfl⟩
  rw [hR]
  have HR := Lib.hid hR
  clear hR
  obtain ⟨cn, hcn⟩ : ∃ cn, c.toNat = cn := ⟨_, rfl⟩
  have HC := Lib.hid hcn
  rw [hcn]
  clear hcn
  go_enter Tryz.func113, Tryz.ntmps113
  go_wp2_with fail
  go_loop [7] (fun v7 => ∃ i : Nat, i ≤ s.size ∧ v7 = .int .i64 i ∧ Hid (cutL c s.data.toList = (s.data.toList.take i ++ (cutL c (s.data.toList.drop i)).1, (cutL c (s.data.toList.drop i)).2.1, (cutL c (s.data.toList.drop i)).2.2))) (fun v7 => s.size - (intOf v7).toNat)
  case atStart => exact ⟨0, by omega, rfl, Lib.hid rfl⟩
  case round =>
    obtain ⟨i, hi, rfl, HE⟩ := hrel
    by_cases hlt : i < s.size
    · obtain ⟨x, hx⟩ : ∃ x, s.data.toList.getD i 0 = x := ⟨_, rfl⟩
      obtain ⟨v, hv⟩ : ∃ v, x.toNat = v := ⟨_, rfl⟩
      have hxi := sidx s i v hlt (by rw [hx, hv]) w
      have hst := cut_step c s.data.toList i hlt x hx
      have hE := HE.out
      rw [hst.1, cutL] at hE
      by_cases he : x = c
      · rw [if_pos he] at hE
        have hvc : v = cn := by rw [← hv, he, HC.out]
        have HF := Lib.hid (show R = .tuple #[.string (s.extract 0 i), .string (s.extract (i + 1) s.size), .bool true] by
          rw [← HR.out, cutV, hE, ex_take, ex_drop s (i + 1) (by omega), List.append_nil])
        have c1 : (0 : Int) ≤ ↑i := by omega
        have c2 : (↑i : Int) ≤ ↑s.size := by omega
        have c3 : (0 : Int) ≤ ↑i + 1 := by omega
        have c4 : (↑i + 1 : Int) ≤ ↑s.size := by omega
        clear hE hst hx hv he HE HR HC
        subst hvc
        go_wp2
        go_quiet (fail)
        go_wp2
        go_ret3
        exact ⟨by rw [HF.out]; rfl, nq, rfl⟩
      · rw [if_neg he] at hE
        have hne : ((v : Int) == (cn : Int)) = false := by
          rw [beq_eq_false_iff_ne]
          intro h
          apply he
          have : v = cn := by omega
          rw [← hv, ← HC.out] at this
          exact UInt8.toNat_inj.1 this
        have HE2 := Lib.hid (show cutL c s.data.toList = (s.data.toList.take (i + 1) ++ (cutL c (s.data.toList.drop (i + 1))).1, (cutL c (s.data.toList.drop (i + 1))).2.1, (cutL c (s.data.toList.drop (i + 1))).2.2) by
          rw [hE, hst.2, List.append_assoc]; rfl)
        clear hE hst hx hv he HE
        go_wp2
        go_round
        case rel => exact ⟨i + 1, by omega, by go_num, HE2⟩
        case measure => simp [intOf]; omega
    · have HF := Lib.hid (show R = .tuple #[.string s, .string ⟨#[]⟩, .bool false] by
        have hl : s.data.toList.length = s.size := rfl
        have hE := HE.out
        rw [List.drop_of_length_le (by omega), cutL, List.take_of_length_le (by omega)] at hE
        rw [← HR.out, cutV, hE, List.append_nil, bs_of]; rfl)
      clear HE HR
      go_wp2
      go_ret3
      exact ⟨by rw [HF.out]; rfl, 0, rfl⟩
end Go.Proofs.YtekobdmlgbffnaaGreatDoor

/- syntax.pieces$1, the iterator: its contract. -/
namespace Go.Proofs.YtekobdmlgbffnaaGreatDoor
set_option linter.unusedVariables false
set_option maxRecDepth 100000
set_option linter.unusedSimpArgs false
open Go.RowKit Go.Shelf
attribute [local go_sem] Oper.semAt_some

/-- A piece with its place. -/
abbrev Pc := { p : Nat × ByteArray // p.2.size ≤ 140737488355328 }
abbrev pcs (x : Pc) : Array Value := #[.int .i64 (x.1.1 : Int), .string x.1.2]
/-- What a round must keep: the blocks of the iterator's own variables. -/
def Kp2 (B : Nat) (W W' : World) : Prop := W'.heap[B]? = W.heap[B]? ∧ W'.heap[B + 1]? = W.heap[B + 1]?
theorem Kp2.t {B : Nat} {X Y Z : World} (h : Kp2 B X Y) (k : Kp2 B Y Z) : Kp2 B X Z := ⟨k.1.trans h.1, k.2.trans h.2⟩
def meaP : Value → Value → Nat
  | .string s, .bool true => s.size + 1
  | _, _ => 0

set_option maxRecDepth 100000 in
set_option maxHeartbeats 2000000 in
theorem pieces1_stops (n : Nat) (hn : 2 ≤ n) (B : Nat) (s : ByteArray) (c : UInt8) (w : World) (h1 : Bk w B 9 #[.string s]) (h2 : Bk w (B + 1) 9 #[.string ⟨#[c]⟩]) (hs : s.size ≤ 140737488355328) :
    SeqStopsK Fence.wide n Tryz.prog 148 #[.pointer (some ⟨B, 0, none⟩), .pointer (some ⟨B + 1, 0, none⟩)] pcs (Kp2 B)
      (fun xs => xs.map (·.1) = ixs 0 (piecesL c s.data.toList)) (fun pre => pre.map (·.1) <+: ixs 0 (piecesL c s.data.toList)) (piecesL c s.data.toList).length w := fun l J Jx W hW hJ hJx hY h0 => by
  refine callsIn_of_wp Tryz.func148 rfl trivial ?_ rfl
  simp only [Tryz.ntmps148, List.size_toArray, List.length_cons, List.length_nil, Nat.reduceAdd, Nat.reduceSub, Array.replicate_succ, Array.replicate_zero, List.push_toArray, List.append_toArray, List.nil_append, List.cons_append]
  have hc1 : W.cell? ⟨B, 0, none⟩ = some (.string s) := by rw [(h1.below hW h1.lt).cell]; rfl
  have hk2 : Bk W (B + 1) 9 #[.string ⟨#[c]⟩] := h2.below hW h2.lt
  have HK2 := Lib.hid hk2
  clear hk2
  gi_wp2
  clear hc1
  gi_loopw [4, 5, 6] (fun v4 v5 v6 wr => ∃ (pre : List Pc) (rest : List UInt8) (more : Bool), v4 = .string (bs rest) ∧ v5 = .bool more ∧ v6 = .int .i64 (pre.length : Int) ∧ Hid (ixs 0 (piecesL c s.data.toList) = pre.map (·.1) ++ ixs pre.length (if more = true then piecesL c rest else [])) ∧ rest.length ≤ s.size ∧ Hid (J pre wr) ∧ Hid (Bk wr (B + 1) 9 #[.string ⟨#[c]⟩])) (fun v4 v5 _ wr => meaP v4 v5)
  case atStart =>
    exact ⟨[], s.data.toList, true, by rw [bs_of], rfl, rfl, Lib.hid rfl, Nat.le_refl _, Lib.hid h0, HK2⟩
  case round =>
    obtain ⟨pre, rest, more, rfl, rfl, rfl, HE, hr, HJ, HM⟩ := hrel
    cases more with
    | false =>
      simp only [Bool.false_eq_true, if_false, ixs, List.append_nil] at HE
      gi_wp2
      go_end0
      exact ⟨⟨_, rfl⟩, .inl ⟨pre, HE.out.symm, HJ.out⟩⟩
    | true =>
      simp only [if_true] at HE
      have hE := HE.out
      rw [pieces_cut c rest] at hE
      obtain ⟨p, q, m, hc⟩ : ∃ p q m, cutL c rest = (p, q, m) := ⟨_, _, _, rfl⟩
      rw [hc] at hE
      simp only at hE
      have hlen : pre.length < (piecesL c s.data.toList).length := by
        have := congrArg List.length hE
        rw [ixs_len, List.length_append, List.length_map, ixs, List.length_cons] at this
        omega
      have hsz := cutL_len c rest
      rw [hc] at hsz
      simp only at hsz
      have HLT := Lib.hid (fun hm : m = true => cutL_lt c rest (by rw [hc]; exact hm))
      rw [hc] at HLT
      simp only at HLT
      have hcut := Lib.hid (fun u => cut_ok (bs rest) c u (by rw [bs_size]; omega))
      have hV : cutV c (bs rest) = .tuple #[.string (bs p), .string (bs q), .bool m] := by unfold cutV; rw [bs_data, hc]
      rw [hV] at hcut
      have hmark : wr.cell? ⟨B + 1, 0, none⟩ = some (.string ⟨#[c]⟩) := by rw [HM.out.cell]; rfl
      obtain ⟨P, hP⟩ : ∃ P, P = bs p := ⟨_, rfl⟩
      have hPs : P.size ≤ 140737488355328 := by rw [hP, bs_size]; omega
      rw [← hP] at hcut
      have HE2 := Lib.hid (show ixs 0 (piecesL c s.data.toList) = (pre ++ [(⟨(pre.length, P), hPs⟩ : Pc)]).map (·.1) ++ ixs (pre ++ [(⟨(pre.length, P), hPs⟩ : Pc)]).length (if m = true then piecesL c q else []) by
        rw [hE, ixs, ← hP, List.map_append, List.length_append, List.append_assoc]; rfl)
      have HPL := Lib.hid (show (pre ++ [(⟨(pre.length, P), hPs⟩ : Pc)]).length = pre.length + 1 by simp)
      have HYY := Lib.hid (fun k => hY pre (⟨(pre.length, P), hPs⟩ : Pc) (wr.drewN k) (hJ _ _ _ none HJ.out ⟨rfl, rfl, rfl, Nat.le_refl _, fun _ _ _ => rfl⟩ (fun r e => by cases e)) hlen)
      have HQS := Lib.hid (show (bs q).size < (bs rest).size ∨ m = false by
        rcases Bool.eq_false_or_eq_true m with hm | hm
        · have := HLT.out hm; left; rw [bs_size, bs_size]; exact this
        · exact .inr hm)
      have hq2 := hsz.2
      have hn0 : 1 ≤ n := by omega
      have hpb : pre.length ≤ 140737488355328 := by have := pieces_len c s.data.toList; have e : s.data.toList.length = s.size := rfl; omega
      have hn1 : 1 ≤ n - 1 := by omega
      clear hE hc hV hP HLT hsz HE
      gi_wp2_with (refine ⟨trivial, ?_⟩; gi_at_call 73; refine (callsIn_wide.2 (hcut.out _)).mono ?_; rintro e w' ⟨rfl, k, rfl⟩; obtain ⟨fn, tmps, assign, body, hy, hR⟩ := HYY.out k; dsimp only [pcs] at hy)
      refine hR.mono ?_
      clear hy hR
      rintro e W2 (⟨rfl, hJ2, hk2⟩ | ⟨rfl, hJx2⟩)
      · have HJ2 := Lib.hid hJ2
        have HM2 := Lib.hid (show Bk W2 (B + 1) 9 #[.string ⟨#[c]⟩] from hk2.2.trans HM.out)
        clear hJ2 hk2
        gi_wp2
        go_roundw
        case rel => exact ⟨_, q, m, rfl, rfl, by rw [HPL.out]; go_num, HE2, by omega, HJ2, HM2⟩
        case measure =>
          simp only [meaP]
          rcases HQS.out with h | h
          · cases m <;> simp [meaP]; omega
          · rw [h]; simp [meaP]
      · gi_wp2
        refine bodyPost_ret (results_none rfl _ _ _) rfl ?_
        refine ⟨⟨_, rfl⟩, .inr ⟨_, ?_, hJx2⟩⟩
        rw [HE2.out]
        exact List.prefix_append _ _
end Go.Proofs.YtekobdmlgbffnaaGreatDoor

/- syntax.Addr: its contract. -/
namespace Go.Proofs.YtekobdmlgbffnaaGreatDoor
set_option linter.unusedVariables false
set_option maxRecDepth 100000
set_option linter.unusedSimpArgs false
open Go.RowKit Go.Shelf
attribute [local go_sem] Oper.semAt_some

def vA (pre : List Pc) : Value := .int .u32 ((fA (pre.map (·.1))).1 : Int)
def vL (pre : List Pc) : Value := .int .i64 ((fA (pre.map (·.1))).2 : Int)

theorem vA_snoc (pre : List Pc) (x : Pc) : vA (pre ++ [x]) = .int .u32 (((fA (pre.map (·.1))).1 * 256 + (upToO 255 x.1.2).getD 0) % 4294967296 : Nat) := by
  unfold vA; rw [List.map_append]; simp only [List.map_cons, List.map_nil]; rw [fA_snoc]; rfl
theorem vL_snoc (pre : List Pc) (x : Pc) : vL (pre ++ [x]) = .int .i64 (x.1.1 : Int) := by
  unfold vL; rw [List.map_append]; simp only [List.map_cons, List.map_nil]; rw [fA_snoc]; rfl
theorem fA_lt (xs : List (Nat × ByteArray)) : (fA xs).1 < 4294967296 := by
  rcases List.eq_nil_or_concat xs with rfl | ⟨ys, y, rfl⟩
  · decide
  · rw [List.concat_eq_append, fA_snoc]; exact Nat.mod_lt _ (by omega)
theorem or_byte (a v : Nat) (ha : a < 4294967296) (hv : v ≤ 255) : bits .or .u32 ((a : Int) * 256 % 4294967296) (v : Int) = (((a * 256 + v) % 4294967296 : Nat) : Int) := by
  have e1 : (a : Int) * 256 % 4294967296 = ((a % 16777216 * 256 : Nat) : Int) := by omega
  rw [e1, w_or]
  unfold wor
  have e2 : a % 16777216 * 256 = (a % 16777216) <<< 8 := by rw [Nat.shiftLeft_eq]
  have e3 : (a % 16777216 * 256) ||| v = a % 16777216 * 256 + v := by
    rw [e2]; exact (Nat.shiftLeft_add_eq_or_of_lt (a := a % 16777216) (i := 8) (b := v) (by omega)).symm
  rw [e3]
  have e4 : (a % 16777216 * 256 + v) % 4294967296 = (a * 256 + v) % 4294967296 := by omega
  rw [e4]
theorem ownFrom_size {β : Type} (B m : Nat) : OwnFrom B (fun (_ : β) (W : World) => m ≤ W.heap.size) := fun _ _ _ _ hs hg _ => Nat.le_trans hs hg.size
theorem KeepsOthers.below {W W' : World} (h : Below W.heap.size W W') : KeepsOthers W W' := ⟨h.size, fun i o ho _ => (h.block i (Array.getElem?_eq_some_iff.1 ho).1).trans ho⟩

set_option maxRecDepth 100000 in
set_option maxHeartbeats 4000000 in
theorem addr_ok (s : ByteArray) (w : World) (hs : s.size ≤ 140737488355328) :
    Calls Tryz.prog 131 #[.string s] w fun e w' => e = .returned (.tuple #[.int .u32 ((addrO s).getD 0 : Nat), .bool (addrO s).isSome]) ∧ Below w.heap.size w w' := by
  obtain ⟨R, hR⟩ : ∃ R, R = addrO s := ⟨_, rfl⟩
  rw [← hR]
  have HR := Lib.hid hR
  clear hR
  refine (callsIn_wide (n := 6)).1 ?_
  refine callsIn_of_wp_marks Tryz.func131 rfl trivial ?_ rfl
  simp only [Tryz.ntmps131, List.size_toArray, List.length_cons, List.length_nil, Nat.reduceAdd, Nat.reduceSub, Array.replicate_succ, Array.replicate_zero, List.push_toArray, List.append_toArray, List.nil_append, List.cons_append]
  gi_wp2
  refine wpIn_wide.2 (wp_scope_jumps 0 (fun a u => ∃ D, a = { tmps := #[.string s, undef, .int .u32 0, .bool false, .pointer (some ⟨w.heap.size, 0, none⟩), .pointer (some ⟨w.heap.size + 1, 0, none⟩), undef, undef, undef, undef, .string s, .func (.func 148) #[] #[.pointer (some ⟨w.heap.size + 1 + 1, 0, none⟩), .pointer (some ⟨w.heap.size + 1 + 1 + 1, 0, none⟩)], undef, undef, undef, undef, undef, undef, undef, undef, undef, undef, undef, undef, undef, undef, undef, undef, undef, undef, undef, undef, undef, undef], defers := [{ target := .collected D, args := #[] }] } ∧ w.heap.size ≤ D ∧ u.heap[D]? = some (.deferred (some [])) ∧ Below w.heap.size w u ∧ R = none) (fun _ _ => 0) rfl ?first ?pass)
  case first =>
    refine (wpIn_wide (n := 6)).1 ?_
    gi_wp2_with (refine ⟨trivial, ?_⟩; gi_at_call 130; refine (callsIn_wide.2 (pieces_ok _ _ _)).mono ?_; rintro e w' ⟨rfl, rfl⟩)
    obtain ⟨W0, hW0⟩ : ∃ W0, (((w.alloc (.cells #[.int .u32 0] 83)).alloc (.cells #[.int .i64 0] 3)).alloc (.cells #[.string s] 9)).alloc (.cells #[.string ⟨#[46]⟩] 9) = W0 := ⟨_, rfl⟩
    have hz : W0.heap.size = w.heap.size + 4 := by rw [← hW0]; simp
    have hB0 : Below w.heap.size w W0 := by rw [← hW0]; go_grown
    have hk0 : Boxed W0 w.heap.size 83 (vA []) := by rw [← hW0]; exact (((Boxed.new w 83 _).alloc _).alloc _).alloc _
    have hk1 : Boxed W0 (w.heap.size + 1) 3 (vL []) := by
      have := Boxed.new (w.alloc (.cells #[.int .u32 0] 83)) 3 (.int .i64 0)
      rw [World.size_alloc] at this
      rw [← hW0]; exact (this.alloc _).alloc _
    have hk2 : Bk W0 (w.heap.size + 1 + 1) 9 #[.string s] := by
      have : Bk (((w.alloc (.cells #[.int .u32 0] 83)).alloc (.cells #[.int .i64 0] 3)).alloc (.cells #[.string s] 9)) (w.heap.size + 1 + 1) 9 #[.string s] := Bk.here (by simp)
      rw [← hW0]; exact this.alloc _
    have hk3 : Bk W0 (w.heap.size + 1 + 1 + 1) 9 #[.string ⟨#[46]⟩] := by rw [← hW0]; exact Bk.here (by simp)
    rw [hW0]
    clear hW0
    refine wpIn_rangeFunc_ownF rfl (by omega) (gf := 148) (lb := #[.pointer (some ⟨w.heap.size + 1 + 1, 0, none⟩), .pointer (some ⟨w.heap.size + 1 + 1 + 1, 0, none⟩)]) rfl trivial (enters_of Tryz.func148 (by kernel_rfl) rfl)
      (pieces1_stops 5 (by omega) (w.heap.size + 1 + 1) s 46 W0 hk2 hk3 hs) (fun h k => Kp2.t h k)
      (fun W l o o' hl ho _ _ => ⟨?kb1, ?kb2⟩) (Below.refl _ _) (fun _ => rfl)
      (fun pre W => Boxed W w.heap.size 83 (vA pre) ∧ Boxed W (w.heap.size + 1) 3 (vL pre) ∧ (∀ x ∈ pre, okA x.1 = true) ∧ w.heap.size + 4 ≤ W.heap.size ∧ Below w.heap.size w W)
      (fun c pre W => (c = .goto 0 ∧ ∃ x ∈ pre, okA x.1 = false) ∧ Below w.heap.size w W)
      (OwnFrom.and (Own.from (boxed_own _ _ _) _) (OwnFrom.and (Own.from (boxed_own _ _ _) _) (OwnFrom.and (ownFrom_pure _ _) (OwnFrom.and (ownFrom_size _ _) (ownFrom_below (Nat.le_refl _) (by omega))))))
      (fun c => OwnFrom.and (ownFrom_pure _ _) (ownFrom_below (Nat.le_refl _) (by omega)))
      ⟨hk0, hk1, (fun x hx => by cases hx), Nat.le_of_eq hz.symm, hB0⟩
      (fun x => { tmps := #[.string s, undef, .int .u32 0, .bool false, .pointer (some ⟨w.heap.size, 0, none⟩), .pointer (some ⟨w.heap.size + 1, 0, none⟩), .int .i64 (x.1.1 : Int), .string x.1.2, undef, undef, .string s, .func (.func 148) #[] #[.pointer (some ⟨w.heap.size + 1 + 1, 0, none⟩), .pointer (some ⟨w.heap.size + 1 + 1 + 1, 0, none⟩)], .int .i64 (x.1.1 : Int), .string x.1.2, undef, undef, undef, undef, undef, undef, undef, undef, undef, undef, undef, undef, undef, undef, undef, undef, undef, undef, undef, undef], defers := [] }) ?assign ?body ?done ?stop
    case kb1 => exact (grownBy_putObj' W l o').block _ (by have := (Array.getElem?_eq_some_iff.1 ho).1; omega) (fun e => by cases e; omega)
    case kb2 => exact (grownBy_putObj' W l o').block _ (by have := (Array.getElem?_eq_some_iff.1 ho).1; omega) (fun e => by cases e; omega)
    case assign =>
      intro l x W K hK
      gi_wp2
      exact hK
    case body =>
      rintro l pre x W ⟨hA, hL, hok, hWz, hB⟩ _
      have ca := hA.cell
      have fa := hA.frozen
      have cl := hL.cell
      have fl := hL.frozen
      obtain ⟨⟨k, P⟩, hP⟩ := x
      have HU := Lib.hid (fun u => upTo_ok 255 P u (by omega) hP)
      have hn1 : 1 ≤ 6 - 1 - 1 := by omega
      cases hu : upToO 255 P with
      | none =>
        rw [hu] at HU
        simp only [Option.getD_none, Option.isSome_none] at HU
        have HK := Lib.hid (show okA (k, P) = false by simp [okA, hu])
        clear hu
        gi_wp2_with (refine ⟨trivial, ?_⟩; gi_at_call 132; refine (CallsIn.inRound l (callsIn_wide.2 (HU.out _))).mono ?_; rintro e w2 ⟨rfl, hb2⟩)
        refine wpIn_goto ?_
        show KeepsOthers W w2 ∧ ((Code.goto 0 = .goto 0 ∧ ∃ y ∈ pre ++ [(⟨(k, P), hP⟩ : Pc)], okA y.1 = false) ∧ Below w.heap.size w w2)
        exact ⟨KeepsOthers.below hb2, ⟨rfl, _, List.mem_append.2 (.inr (List.mem_singleton.2 rfl)), HK.out⟩, hB.trans (hb2.mono hB.size)⟩
      | some v =>
        rw [hu] at HU
        simp only [Option.getD_some, Option.isSome_some] at HU
        have hv := (upToO_is _ _ _ hu).1
        by_cases h4 : k = 4
        · subst h4
          have HK := Lib.hid (show okA (4, P) = false by simp [okA])
          clear hu
          gi_wp2_with (refine ⟨trivial, ?_⟩; gi_at_call 132; refine (CallsIn.inRound l (callsIn_wide.2 (HU.out _))).mono ?_; rintro e w2 ⟨rfl, hb2⟩)
          refine wpIn_goto ?_
          show KeepsOthers W w2 ∧ ((Code.goto 0 = .goto 0 ∧ ∃ y ∈ pre ++ [(⟨(4, P), hP⟩ : Pc)], okA y.1 = false) ∧ Below w.heap.size w w2)
          exact ⟨KeepsOthers.below hb2, ⟨rfl, _, List.mem_append.2 (.inr (List.mem_singleton.2 rfl)), HK.out⟩, hB.trans (hb2.mono hB.size)⟩
        · have e4 : ((k : Int) == 4) = false := by rw [beq_eq_false_iff_ne]; omega
          have HK := Lib.hid (show okA (k, P) = true by simp [okA, hu, h4])
          obtain ⟨a, ha⟩ : ∃ a, (fA (pre.map (·.1))).1 = a := ⟨_, rfl⟩
          have hva : vA pre = .int .u32 (a : Int) := by rw [← ha]; rfl
          have ha2 : a < 4294967296 := by rw [← ha]; exact fA_lt _
          have HV := Lib.hid (show vA (pre ++ [(⟨(k, P), hP⟩ : Pc)]) = .int .u32 ((a * 256 + v) % 4294967296 : Nat) by rw [vA_snoc, ha, hu]; rfl)
          have HL2 := Lib.hid (vL_snoc pre ⟨(k, P), hP⟩)
          rw [hva] at hA ca
          obtain ⟨vl, hvl⟩ : ∃ vl, vL pre = vl := ⟨_, rfl⟩
          rw [hvl] at hL cl
          clear hu hva ha hvl h4
          gi_wp2_with (refine ⟨trivial, ?_⟩; gi_at_call 132; refine (CallsIn.inRound l (callsIn_wide.2 (HU.out _))).mono ?_; rintro e w2 ⟨rfl, hb2⟩; have hA2 := (hb2.block _ hA.lt).trans hA; have hL2 := (hb2.block _ hL.lt).trans hL; have ca2 := Boxed.cell hA2; have fa2 := Boxed.frozen hA2; have cl2 := Boxed.cell hL2; have fl2 := Boxed.frozen hL2)
          rw [or_byte a v ha2 hv, ← HV.out, ← HL2.out]
          have hs1 := (Boxed.set (vA (pre ++ [(⟨(k, P), hP⟩ : Pc)])) hA2).other (B' := w.heap.size + 1) (by omega) (vL (pre ++ [(⟨(k, P), hP⟩ : Pc)]))
          have hs2 := (Boxed.other hL2 (B' := w.heap.size) (by omega) (vA (pre ++ [(⟨(k, P), hP⟩ : Pc)]))).set (vL (pre ++ [(⟨(k, P), hP⟩ : Pc)]))
          refine ⟨(KeepsOthers.below hb2).trans ((KeepsOthers.setCell _ _ _).trans (KeepsOthers.setCell _ _ _)), ⟨?_, ?_⟩, hs1, hs2, ?_, ?_, ((hB.trans (hb2.mono hB.size)).setCell (p := ⟨w.heap.size, 0, none⟩) (Nat.le_refl _) _).setCell (p := ⟨w.heap.size + 1, 0, none⟩) (by show w.heap.size ≤ w.heap.size + 1; omega) _⟩
          · rw [Below.heap_setCell _ _ _ _ (by show w.heap.size + 1 + 1 ≠ w.heap.size + 1; omega), Below.heap_setCell _ _ _ _ (by show w.heap.size + 1 + 1 ≠ w.heap.size; omega)]
            exact hb2.block _ (by have := hWz; omega)
          · rw [Below.heap_setCell _ _ _ _ (by show w.heap.size + 1 + 1 + 1 ≠ w.heap.size + 1; omega), Below.heap_setCell _ _ _ _ (by show w.heap.size + 1 + 1 + 1 ≠ w.heap.size; omega)]
            exact hb2.block _ (by have := hWz; omega)
          · intro y hy
            rcases List.mem_append.1 hy with h | h
            · exact hok y h
            · obtain rfl : y = ⟨(k, P), hP⟩ := by simpa using h
              exact HK.out
          · have := hb2.size
            rw [World.size_setCell, World.size_setCell]; omega
    case done =>
      rintro D xs W hD hS ⟨hA, hL, hok, _, hB⟩ hK
      have hRv : R = if (fA (xs.map (·.1))).2 = 3 then some (fA (xs.map (·.1))).1 else none := by
        rw [HR.out]
        unfold addrO
        rw [hS]
        exact A_done _ (fun x hx => by rw [← hS] at hx; obtain ⟨y, hy, rfl⟩ := List.mem_map.1 hx; exact hok y hy)
      have ca := hA.cell
      have cl := hL.cell
      unfold vA at ca
      unfold vL at cl
      obtain ⟨a, ha⟩ : ∃ a, (fA (xs.map (·.1))).1 = a := ⟨_, rfl⟩
      obtain ⟨b, hb⟩ : ∃ b, (fA (xs.map (·.1))).2 = b := ⟨_, rfl⟩
      rw [ha] at ca hRv
      rw [hb] at cl hRv
      have HK := Lib.hid hK
      clear ha hb hA hL hok hS hK
      by_cases h3 : b = 3
      · subst h3
        have HRV := Lib.hid (show R = some a by rw [hRv]; rfl)
        clear hRv
        gi_wp2
        refine ⟨by simp, .inl ⟨_, _, rfl, run_takeDeferred HK.out, ?_⟩⟩
        rw [HRV.out]
        refine ⟨.tuple #[.int .u32 (a : Int), .bool true], ?_, rfl, hB.trans (belowK_b (w := w) (Nat.le_refl _) W D _ _ (by omega) HK.out rfl rfl)⟩
        simp [results, Tryz.f131, go_sem]
      · have e3 : ((b : Int) == 3) = false := by rw [beq_eq_false_iff_ne]; omega
        have HRV := Lib.hid (show R = none by rw [hRv, if_neg h3])
        clear hRv h3
        gi_wp2
        refine wpIn_label ?_
        gi_wp2
        refine ⟨by simp, .inl ⟨_, _, rfl, run_takeDeferred HK.out, ?_⟩⟩
        rw [HRV.out]
        refine ⟨.tuple #[.int .u32 0, .bool false], ?_, rfl, hB.trans (belowK_b (w := w) (Nat.le_refl _) W D _ _ (by omega) HK.out rfl rfl)⟩
        simp [results, Tryz.f131, go_sem]
    case stop =>
      rintro D c pre W hD hSp ⟨⟨rfl, x, hx, hbad⟩, hB⟩ hK
      have hRn : R = none := by
        rw [HR.out]
        exact A_stop _ _ hSp x.1 (List.mem_map.2 ⟨x, hx, rfl⟩) hbad
      refine wpIn_goto ?_
      refine ⟨rfl, D, rfl, by omega, hK, hB, hRn⟩
  case pass =>
    rintro a u ⟨D, rfl, hD, hK, hB, hRn⟩
    go_wp2
    refine ⟨by simp, .inl ⟨_, _, rfl, run_takeDeferred hK, ?_⟩⟩
    rw [hRn]
    refine ⟨.tuple #[.int .u32 0, .bool false], ?_, rfl, hB.trans (belowK_b (w := w) (Nat.le_refl _) u D _ _ (by omega) hK rfl rfl)⟩
    simp [results, Tryz.f131, go_sem]
end Go.Proofs.YtekobdmlgbffnaaGreatDoor

/- The document's own: Addr, Net: their contracts. (Written by gen_sref.py.) -/
namespace Go.Proofs.YtekobdmlgbffnaaGreatDoor
set_option linter.unusedVariables false
set_option maxRecDepth 100000
set_option linter.unusedSimpArgs false
open Go.RowKit

def goA : Nat → Nat → List UInt8 → Option Nat
  | 0, a, _ => some a
  | r + 1, a, l => match upToO 255 (bs (cutL 46 l).1) with
    | none => none
    | some n => if (cutL 46 l).2.2 = decide (0 < r) then goA r ((256 * a + n) % 4294967296) (cutL 46 l).2.1 else none
def evalA : Nat → Nat → List (Option Nat) → Option Nat
  | 0, a, [] => some a
  | r + 1, a, some n :: ps => evalA r ((256 * a + n) % 4294967296) ps
  | _, _, _ => none
theorem goA_eval : ∀ (r a : Nat) (l : List UInt8), goA (r + 1) a l = evalA (r + 1) a ((piecesL 46 l).map fun p => upToO 255 (bs p)) := by
  intro r
  induction r with
  | zero =>
    intro a l
    rw [goA, pieces_cut, List.map_cons]
    cases hu : upToO 255 (bs (cutL 46 l).1) with
    | none => simp [evalA]
    | some n =>
      cases hm : (cutL 46 l).2.2 with
      | false => simp [evalA, goA]
      | true =>
        rw [pieces_cut 46 (cutL 46 l).2.1]
        simp [evalA]
  | succ r ih =>
    intro a l
    rw [goA, pieces_cut, List.map_cons]
    cases hu : upToO 255 (bs (cutL 46 l).1) with
    | none => simp [evalA]
    | some n =>
      cases hm : (cutL 46 l).2.2 with
      | false => simp [evalA]
      | true =>
        simp only [evalA, if_true]
        rw [← ih]
        simp
theorem evalA_four (ps : List (Option Nat)) (h : ∀ x ∈ ps, ∀ n, x = some n → n ≤ 255) : evalA 4 0 ps = addrL ps := by
  match ps, h with
  | [], _ => rfl
  | [p], _ => cases p <;> rfl
  | [p, q], _ => cases p <;> cases q <;> rfl
  | [p, q, r], _ => cases p <;> cases q <;> cases r <;> rfl
  | [p, q, r, t], h =>
    cases p with
    | none => rfl
    | some a => cases q with
      | none => rfl
      | some b => cases r with
        | none => rfl
        | some c => cases t with
          | none => rfl
          | some d =>
            have h1 := h (some a) (by simp) a rfl
            have h2 := h (some b) (by simp) b rfl
            have h3 := h (some c) (by simp) c rfl
            have h4 := h (some d) (by simp) d rfl
            simp only [evalA, addrL]
            congr 1
            omega
  | p :: q :: r :: t :: u :: ps, _ => cases p <;> cases q <;> cases r <;> cases t <;> rfl
theorem goA_addr (s : ByteArray) : goA 4 0 s.data.toList = addrO s := by
  rw [goA_eval]
  unfold addrO
  refine evalA_four _ (fun x hx n hn => ?_)
  obtain ⟨p, _, hp⟩ := List.mem_map.1 hx
  rw [hn] at hp
  exact (upToO_is 255 n _ hp).1

set_option maxHeartbeats 2000000 in
theorem raddr_ok (s : ByteArray) (w : World) (hs : s.size ≤ 140737488355328) :
    Calls Tryz.prog 114 #[.string s] w fun e w' => e = .returned (.tuple #[.int .u32 ((addrO s).getD 0 : Nat), .bool (addrO s).isSome]) ∧ ∃ n, w' = w.drewN n := by
  obtain ⟨R, hR⟩ : ∃ R, goA 4 0 s.data.toList = R := ⟨_, rfl⟩
  rw [← goA_addr s, hR]
  have HR := Lib.hid hR
  clear hR
  go_enter Tryz.func114, Tryz.ntmps114
  go_wp2_with fail
  go_loopw [0, 4, 5] (fun v0 v4 v5 wr => ∃ (i a k : Nat) (l : List UInt8), i ≤ 4 ∧ v5 = .int .i64 i ∧ v0 = .string (bs l) ∧ v4 = .int .u32 a ∧ a < 4294967296 ∧ l.length ≤ 140737488355328 ∧ Hid (goA (4 - i) a l = R) ∧ wr = w.drewN k) (fun _ _ v5 _ => 4 - (intOf v5).toNat)
  case atStart => exact ⟨0, 0, 0, s.data.toList, by omega, rfl, by rw [bs_of], rfl, by omega, hs, HR, rfl⟩
  case round =>
    obtain ⟨i, a, k, l, hi, rfl, rfl, rfl, ha, hll, HE, rfl⟩ := hrel
    clear HR
    by_cases hlt : i < 4
    · have hE := HE.out
      rw [show 4 - i = (3 - i) + 1 by omega, goA] at hE
      obtain ⟨p, q, m, hc⟩ : ∃ p q m, cutL 46 l = (p, q, m) := ⟨_, _, _, rfl⟩
      have hsz := cutL_len 46 l
      rw [hc] at hE hsz
      simp only at hE hsz
      have HC := Lib.hid (fun u => rcut_ok (bs l) 46 u (by rw [bs_size]; exact hll))
      rw [show cutV 46 (bs l) = .tuple #[.string (bs p), .string (bs q), .bool m] by unfold cutV; rw [bs_data, hc]] at HC
      rw [show (((46 : UInt8).toNat : Nat) : Int) = 46 from rfl] at HC
      obtain ⟨P, hP⟩ : ∃ P, bs p = P := ⟨_, rfl⟩
      have HPR := Lib.hid (fun u => rparse_ok P u (by rw [← hP, bs_size]; omega))
      rw [hP] at HC hE
      have hq2 : q.length ≤ 140737488355328 := by omega
      clear hP hc HE
      unfold upToO at hE
      cases hp : parseS P with
      | none =>
        rw [hp] at hE HPR
        simp only [parE] at hE HPR
        have HN := Lib.hid hE.symm
        clear hE hp
        go_wp2_with fail
        refine (HC.out _).mono ?_
        rintro e w1 ⟨rfl, k1, rfl⟩
        go_wp2_with fail
        refine (HPR.out _).mono ?_
        rintro e w2 ⟨rfl, rfl⟩
        go_wp2_with fail
        all_goals (first | (go_ret2; exact ⟨by rw [HN.out]; rfl, _, rfl⟩) | (exfalso; have hh := ‹some undef = some (Value.bool _)›; injection hh with hh; cases hh))
      | some x =>
        obtain ⟨n, kk⟩ := x
        rw [hp] at hE HPR
        simp only [parE] at hE HPR
        have hn1 := (parse_is P n kk hp).1
        clear hp
        by_cases hle : n ≤ 255
        · rw [if_pos hle] at hE
          simp only at hE
          have hn2 : (n : Int) ≤ 255 := by omega
          obtain ⟨lb, hlb⟩ : ∃ lb, decide (0 < 3 - i) = lb := ⟨_, rfl⟩
          rw [hlb] at hE
          have hil : decide ((i : Int) < 3) = lb := by rw [← hlb, decide_eq_decide]; omega
          have d255 : decide ((255 : Int) < (n : Int)) = false := by simp <;> omega
          cases m with
          | true =>
            cases lb with
            | true =>
              have HG := Lib.hid (show goA (3 - i) ((256 * a + n) % 4294967296) q = R by simpa using hE)
              clear hE hlb
              go_wp2_with fail
              refine (HC.out _).mono ?_
              rintro e w1 ⟨rfl, k1, rfl⟩
              go_wp2_with fail
              refine (HPR.out _).mono ?_
              rintro e w2 ⟨rfl, rfl⟩
              go_wp2_with fail
              go_roundw
              case rel => exact ⟨i + 1, (256 * a + n) % 4294967296, _, q, by omega, by go_num, rfl, congrArg _ (by omega), Nat.mod_lt _ (by omega), hq2, by rw [show 4 - (i + 1) = 3 - i by omega]; exact HG, rfl⟩
              case measure => simp [intOf]; omega
            | false =>
              have HN := Lib.hid (show R = none by simpa using hE.symm)
              clear hE hlb
              go_wp2_with fail
              refine (HC.out _).mono ?_
              rintro e w1 ⟨rfl, k1, rfl⟩
              go_wp2_with fail
              refine (HPR.out _).mono ?_
              rintro e w2 ⟨rfl, rfl⟩
              go_wp2_with fail
              go_ret2
              exact ⟨by rw [HN.out]; rfl, _, rfl⟩
          | false =>
            cases lb with
            | true =>
              have HN := Lib.hid (show R = none by simpa using hE.symm)
              clear hE hlb
              go_wp2_with fail
              refine (HC.out _).mono ?_
              rintro e w1 ⟨rfl, k1, rfl⟩
              go_wp2_with fail
              refine (HPR.out _).mono ?_
              rintro e w2 ⟨rfl, rfl⟩
              go_wp2_with fail
              go_ret2
              exact ⟨by rw [HN.out]; rfl, _, rfl⟩
            | false =>
              have HG := Lib.hid (show goA (3 - i) ((256 * a + n) % 4294967296) q = R by simpa using hE)
              clear hE hlb
              go_wp2_with fail
              refine (HC.out _).mono ?_
              rintro e w1 ⟨rfl, k1, rfl⟩
              go_wp2_with fail
              refine (HPR.out _).mono ?_
              rintro e w2 ⟨rfl, rfl⟩
              go_wp2_with fail
              go_roundw
              case rel => exact ⟨i + 1, (256 * a + n) % 4294967296, _, q, by omega, by go_num, rfl, congrArg _ (by omega), Nat.mod_lt _ (by omega), hq2, by rw [show 4 - (i + 1) = 3 - i by omega]; exact HG, rfl⟩
              case measure => simp [intOf]; omega
        · rw [if_neg hle] at hE
          simp only at hE
          have HN := Lib.hid hE.symm
          have hn2 : (255 : Int) < (n : Int) := by omega
          clear hE
          go_wp2_with fail
          refine (HC.out _).mono ?_
          rintro e w1 ⟨rfl, k1, rfl⟩
          go_wp2_with fail
          refine (HPR.out _).mono ?_
          rintro e w2 ⟨rfl, rfl⟩
          go_wp2_with fail
          all_goals (first | (go_ret2; exact ⟨by rw [HN.out]; rfl, _, rfl⟩) | (exfalso; have hh := ‹some undef = some (Value.bool _)›; injection hh with hh; cases hh))
    · obtain rfl : i = 4 := by omega
      have HG := Lib.hid (show R = some a by rw [← HE.out]; rfl)
      clear HE
      go_wp2
      go_ret2
      exact ⟨by rw [HG.out]; rfl, k, rfl⟩
end Go.Proofs.YtekobdmlgbffnaaGreatDoor
