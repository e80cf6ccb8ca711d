/- Syn4, Syn5, Syn6, Syn7: texts of this seat, one behind the other. -/
import Derived.Test.YtfpjkedcpnmfeaaDoorM3
import Derived.Test.YtfpjkedcpnmfeaaDoorShelf
import Derived.Test.YtfpjkedcpnmfeaaDoorM1
import Derived.Lib.CutLaws
import Derived.BigQuiet
import Derived.Deep.QuietTactic
import Derived.RangeFuncNested
import Derived.RangeFuncBound
import Derived.RangeFuncCalls
import Derived.RangeFuncLeaves
import Derived.Shelf.Abstract
import Derived.Shelf.RegionOpen
import Derived.WalkKit
import Derived.OwnWalkIn
import Derived.TacticsInMore
import Derived.LoopNIn
import Derived.LoopIn
import Derived.ScopeJumps
import Derived.RangeFuncBox
import Derived.Test.YtfpjkedcpnmfeaaDoorM2
/- strings.Cut at a mark of one byte; syntax.pieces: what it makes. -/
namespace Go.Proofs.YtfpjkedcpnmfeaaDoor
set_option linter.unusedVariables false
set_option linter.unusedSimpArgs false
open Go.RowKit

theorem ex_take (s : ByteArray) (i : Nat) : s.extract 0 i = bs (s.data.toList.take i) := by
  rw [Go.Lib.extract_eq]; simp [bs]
theorem ex_drop (s : ByteArray) (i : Nat) (h : i ≤ s.size) : s.extract i s.size = bs (s.data.toList.drop i) := by
  rw [Go.Lib.extract_eq]
  have ht : List.take (s.size - i) (List.drop i s.data.toList) = List.drop i s.data.toList :=
    List.take_of_length_le (by rw [List.length_drop]; exact Nat.le_refl _)
  rw [ht]; rfl

def cutV (c : UInt8) (s : ByteArray) : Value := .tuple #[.string (bs (cutL c s.data.toList).1), .string (bs (cutL c s.data.toList).2.1), .bool (cutL c s.data.toList).2.2]

set_option maxHeartbeats 1000000 in
theorem lcut_ok (s : ByteArray) (c : UInt8) (w : World) (hs : s.size ≤ 140737488355328) :
    Calls Tryd.prog 64 #[.string s, .string ⟨#[c]⟩] w fun e w' => e = .returned (cutV c s) ∧ ∃ n, w' = w.drewN n := by
  unfold cutV
  rcases cutL_index c s.data.toList with ⟨hx, hc⟩ | ⟨i, hx, hi, hc⟩
  · rw [hc]
    have HX := Lib.hid hx
    clear hx hc
    go_enter Tryd.func64, Tryd.ntmps64
    go_wp2_with (go_at_call 75; refine (Tryd.stringslite_Index_one _ _ _).mono ?_; rintro e w' ⟨rfl, rfl⟩; rw [HX.out])
    go_ret3
    exact ⟨by rw [bs_of]; rfl, 0, rfl⟩
  · rw [hc]
    have HX := Lib.hid hx
    have hi2 : i < s.size := hi
    have HT := Lib.hid (ex_take s i)
    have HD := Lib.hid (ex_drop s (i + 1) (by omega))
    have c1 : (0 : Int) ≤ ↑i := by omega
    have c2 : (↑i : Int) ≤ ↑s.size := by omega
    have c3 : (0 : Int) ≤ ↑i + 1 := by omega
    have c4 : (↑i + 1 : Int) ≤ ↑s.size := by omega
    clear hx hc
    go_enter Tryd.func64, Tryd.ntmps64
    go_wp2_with (go_at_call 75; refine (Tryd.stringslite_Index_one _ _ _).mono ?_; rintro e w' ⟨rfl, rfl⟩; rw [HX.out])
    go_quiet (fail)
    go_wp2
    go_ret3
    exact ⟨by rw [← HT.out, ← HD.out]; rfl, nq, rfl⟩

set_option maxHeartbeats 400000 in
theorem cut_ok (s : ByteArray) (c : UInt8) (w : World) (hs : s.size ≤ 140737488355328) :
    Calls Tryd.prog 52 #[.string s, .string ⟨#[c]⟩] w fun e w' => e = .returned (cutV c s) ∧ ∃ n, w' = w.drewN n := by
  go_enter Tryd.func52, Tryd.ntmps52
  go_wp2_with (go_at_call 64; refine (lcut_ok _ _ _ hs).mono ?_; rintro e w' ⟨rfl, n, rfl⟩; unfold cutV)
  go_ret3
  exact ⟨rfl, n, rfl⟩

set_option maxHeartbeats 400000 in
theorem pieces_ok (s m : ByteArray) (w : World) :
    Calls Tryd.prog 71 #[.string s, .string m] w fun e w' => e = .returned (.func (.func 80) #[] #[.pointer (some ⟨w.heap.size, 0, none⟩), .pointer (some ⟨w.heap.size + 1, 0, none⟩)]) ∧
      w' = (w.alloc (.cells #[.string s] 9)).alloc (.cells #[.string m] 9) := by
  have h : ∀ (fn : Fn) (first cap : Array Value) (w : World), (Instr.makeFunc fn first cap).run Tryd.prog w = .ok (.func fn first cap) w := fun _ _ _ _ => rfl
  go_enter Tryd.func71, Tryd.ntmps71
  go_wp2
  go_ret
  exact ⟨rfl, rfl⟩
end Go.Proofs.YtfpjkedcpnmfeaaDoor

/- syntax.pieces$1, the iterator: its contract. -/
namespace Go.Proofs.YtfpjkedcpnmfeaaDoor
set_option linter.unusedVariables false
set_option linter.unusedSimpArgs false
open Go.RowKit Go.Shelf
attribute [local go_sem] Oper.semAt_some

/-- A piece with its place. -/
abbrev Pc := { p : Nat × ByteArray // p.2.size ≤ 140737488355328 }
abbrev pcs (x : Pc) : Array Value := #[.int .i64 (x.1.1 : Int), .string x.1.2]
/-- What a round must keep: the blocks of the iterator's own variables. -/
def Kp2 (B : Nat) (W W' : World) : Prop := W'.heap[B]? = W.heap[B]? ∧ W'.heap[B + 1]? = W.heap[B + 1]?
theorem Kp2.t {B : Nat} {X Y Z : World} (h : Kp2 B X Y) (k : Kp2 B Y Z) : Kp2 B X Z := ⟨k.1.trans h.1, k.2.trans h.2⟩
def meaP : Value → Value → Nat
  | .string s, .bool true => s.size + 1
  | _, _ => 0

set_option maxRecDepth 100000 in
set_option maxHeartbeats 2000000 in
theorem pieces1_stops (n : Nat) (hn : 2 ≤ n) (B : Nat) (s : ByteArray) (c : UInt8) (w : World) (h1 : Bk w B 9 #[.string s]) (h2 : Bk w (B + 1) 9 #[.string ⟨#[c]⟩]) (hs : s.size ≤ 140737488355328) :
    SeqStopsK Fence.wide n Tryd.prog 80 #[.pointer (some ⟨B, 0, none⟩), .pointer (some ⟨B + 1, 0, none⟩)] pcs (Kp2 B)
      (fun xs => xs.map (·.1) = ixs 0 (piecesL c s.data.toList)) (fun pre => pre.map (·.1) <+: ixs 0 (piecesL c s.data.toList)) (piecesL c s.data.toList).length w := fun l J Jx W hW hJ hJx hY h0 => by
  refine callsIn_of_wp Tryd.func80 rfl trivial ?_ rfl
  simp only [Tryd.ntmps80, List.size_toArray, List.length_cons, List.length_nil, Nat.reduceAdd, Nat.reduceSub, Array.replicate_succ, Array.replicate_zero, List.push_toArray, List.append_toArray, List.nil_append, List.cons_append]
  have hc1 : W.cell? ⟨B, 0, none⟩ = some (.string s) := by rw [(h1.below hW h1.lt).cell]; rfl
  have hk2 : Bk W (B + 1) 9 #[.string ⟨#[c]⟩] := h2.below hW h2.lt
  have HK2 := Lib.hid hk2
  clear hk2
  gi_wp2
  clear hc1
  gi_loopw [4, 5, 6] (fun v4 v5 v6 wr => ∃ (pre : List Pc) (rest : List UInt8) (more : Bool), v4 = .string (bs rest) ∧ v5 = .bool more ∧ v6 = .int .i64 (pre.length : Int) ∧ Hid (ixs 0 (piecesL c s.data.toList) = pre.map (·.1) ++ ixs pre.length (if more = true then piecesL c rest else [])) ∧ rest.length ≤ s.size ∧ Hid (J pre wr) ∧ Hid (Bk wr (B + 1) 9 #[.string ⟨#[c]⟩])) (fun v4 v5 _ wr => meaP v4 v5)
  case atStart =>
    exact ⟨[], s.data.toList, true, by rw [bs_of], rfl, rfl, Lib.hid rfl, Nat.le_refl _, Lib.hid h0, HK2⟩
  case round =>
    obtain ⟨pre, rest, more, rfl, rfl, rfl, HE, hr, HJ, HM⟩ := hrel
    cases more with
    | false =>
      simp only [Bool.false_eq_true, if_false, ixs, List.append_nil] at HE
      gi_wp2
      go_end0
      exact ⟨⟨_, rfl⟩, .inl ⟨pre, HE.out.symm, HJ.out⟩⟩
    | true =>
      simp only [if_true] at HE
      have hE := HE.out
      rw [pieces_cut c rest] at hE
      obtain ⟨p, q, m, hc⟩ : ∃ p q m, cutL c rest = (p, q, m) := ⟨_, _, _, rfl⟩
      rw [hc] at hE
      simp only at hE
      have hlen : pre.length < (piecesL c s.data.toList).length := by
        have := congrArg List.length hE
        rw [ixs_len, List.length_append, List.length_map, ixs, List.length_cons] at this
        omega
      have hsz := cutL_len c rest
      rw [hc] at hsz
      simp only at hsz
      have HLT := Lib.hid (fun hm : m = true => cutL_lt c rest (by rw [hc]; exact hm))
      rw [hc] at HLT
      simp only at HLT
      have hcut := Lib.hid (fun u => cut_ok (bs rest) c u (by rw [bs_size]; omega))
      have hV : cutV c (bs rest) = .tuple #[.string (bs p), .string (bs q), .bool m] := by unfold cutV; rw [bs_data, hc]
      rw [hV] at hcut
      have hmark : wr.cell? ⟨B + 1, 0, none⟩ = some (.string ⟨#[c]⟩) := by rw [HM.out.cell]; rfl
      obtain ⟨P, hP⟩ : ∃ P, P = bs p := ⟨_, rfl⟩
      have hPs : P.size ≤ 140737488355328 := by rw [hP, bs_size]; omega
      rw [← hP] at hcut
      have HE2 := Lib.hid (show ixs 0 (piecesL c s.data.toList) = (pre ++ [(⟨(pre.length, P), hPs⟩ : Pc)]).map (·.1) ++ ixs (pre ++ [(⟨(pre.length, P), hPs⟩ : Pc)]).length (if m = true then piecesL c q else []) by
        rw [hE, ixs, ← hP, List.map_append, List.length_append, List.append_assoc]; rfl)
      have HPL := Lib.hid (show (pre ++ [(⟨(pre.length, P), hPs⟩ : Pc)]).length = pre.length + 1 by simp)
      have HYY := Lib.hid (fun k => hY pre (⟨(pre.length, P), hPs⟩ : Pc) (wr.drewN k) (hJ _ _ _ none HJ.out ⟨rfl, rfl, rfl, Nat.le_refl _, fun _ _ _ => rfl⟩ (fun r e => by cases e)) hlen)
      have HQS := Lib.hid (show (bs q).size < (bs rest).size ∨ m = false by
        rcases Bool.eq_false_or_eq_true m with hm | hm
        · have := HLT.out hm; left; rw [bs_size, bs_size]; exact this
        · exact .inr hm)
      have hq2 := hsz.2
      have hn0 : 1 ≤ n := by omega
      have hpb : pre.length ≤ 140737488355328 := by have := pieces_len c s.data.toList; have e : s.data.toList.length = s.size := rfl; omega
      have hn1 : 1 ≤ n - 1 := by omega
      clear hE hc hV hP HLT hsz HE
      gi_wp2_with (refine ⟨trivial, ?_⟩; gi_at_call 52; refine (callsIn_wide.2 (hcut.out _)).mono ?_; rintro e w' ⟨rfl, k, rfl⟩; obtain ⟨fn, tmps, assign, body, hy, hR⟩ := HYY.out k; dsimp only [pcs] at hy)
      refine hR.mono ?_
      clear hy hR
      rintro e W2 (⟨rfl, hJ2, hk2⟩ | ⟨rfl, hJx2⟩)
      · have HJ2 := Lib.hid hJ2
        have HM2 := Lib.hid (show Bk W2 (B + 1) 9 #[.string ⟨#[c]⟩] from hk2.2.trans HM.out)
        clear hJ2 hk2
        gi_wp2
        go_roundw
        case rel => exact ⟨_, q, m, rfl, rfl, by rw [HPL.out]; go_num, HE2, by omega, HJ2, HM2⟩
        case measure =>
          simp only [meaP]
          rcases HQS.out with h | h
          · cases m <;> simp [meaP]; omega
          · rw [h]; simp [meaP]
      · gi_wp2
        refine bodyPost_ret (results_none rfl _ _ _) rfl ?_
        refine ⟨⟨_, rfl⟩, .inr ⟨_, ?_, hJx2⟩⟩
        rw [HE2.out]
        exact List.prefix_append _ _
end Go.Proofs.YtfpjkedcpnmfeaaDoor

/- syntax.Addr: its contract. -/
namespace Go.Proofs.YtfpjkedcpnmfeaaDoor
set_option linter.unusedVariables false
set_option linter.unusedSimpArgs false
open Go.RowKit Go.Shelf
attribute [local go_sem] Oper.semAt_some

def vA (pre : List Pc) : Value := .int .u32 ((fA (pre.map (·.1))).1 : Int)
def vL (pre : List Pc) : Value := .int .i64 ((fA (pre.map (·.1))).2 : Int)

theorem vA_snoc (pre : List Pc) (x : Pc) : vA (pre ++ [x]) = .int .u32 (((fA (pre.map (·.1))).1 * 256 + (upToO 255 x.1.2).getD 0) % 4294967296 : Nat) := by
  unfold vA; rw [List.map_append]; simp only [List.map_cons, List.map_nil]; rw [fA_snoc]; rfl
theorem vL_snoc (pre : List Pc) (x : Pc) : vL (pre ++ [x]) = .int .i64 (x.1.1 : Int) := by
  unfold vL; rw [List.map_append]; simp only [List.map_cons, List.map_nil]; rw [fA_snoc]; rfl
theorem fA_lt (xs : List (Nat × ByteArray)) : (fA xs).1 < 4294967296 := by
  rcases List.eq_nil_or_concat xs with rfl | ⟨ys, y, rfl⟩
  · decide
  · rw [List.concat_eq_append, fA_snoc]; exact Nat.mod_lt _ (by omega)
theorem or_byte (a v : Nat) (ha : a < 4294967296) (hv : v ≤ 255) : bits .or .u32 ((a : Int) * 256 % 4294967296) (v : Int) = (((a * 256 + v) % 4294967296 : Nat) : Int) := by
  have e1 : (a : Int) * 256 % 4294967296 = ((a % 16777216 * 256 : Nat) : Int) := by omega
  rw [e1, w_or]
  unfold wor
  have e2 : a % 16777216 * 256 = (a % 16777216) <<< 8 := by rw [Nat.shiftLeft_eq]
  have e3 : (a % 16777216 * 256) ||| v = a % 16777216 * 256 + v := by
    rw [e2]; exact (Nat.shiftLeft_add_eq_or_of_lt (a := a % 16777216) (i := 8) (b := v) (by omega)).symm
  rw [e3]
  have e4 : (a % 16777216 * 256 + v) % 4294967296 = (a * 256 + v) % 4294967296 := by omega
  rw [e4]
theorem ownFrom_size {β : Type} (B m : Nat) : OwnFrom B (fun (_ : β) (W : World) => m ≤ W.heap.size) := fun _ _ _ _ hs hg _ => Nat.le_trans hs hg.size
theorem KeepsOthers.below {W W' : World} (h : Below W.heap.size W W') : KeepsOthers W W' := ⟨h.size, fun i o ho _ => (h.block i (Array.getElem?_eq_some_iff.1 ho).1).trans ho⟩

set_option maxRecDepth 100000 in
set_option maxHeartbeats 4000000 in
theorem addr_ok (s : ByteArray) (w : World) (hs : s.size ≤ 140737488355328) :
    Calls Tryd.prog 72 #[.string s] w fun e w' => e = .returned (.tuple #[.int .u32 ((addrO s).getD 0 : Nat), .bool (addrO s).isSome]) ∧ Below w.heap.size w w' := by
  obtain ⟨R, hR⟩ : ∃ R, R = addrO s := ⟨_, rfl⟩
  rw [← hR]
  have HR := Lib.hid hR
  clear hR
  refine (callsIn_wide (n := 6)).1 ?_
  refine callsIn_of_wp_marks Tryd.func72 rfl trivial ?_ rfl
  simp only [Tryd.ntmps72, List.size_toArray, List.length_cons, List.length_nil, Nat.reduceAdd, Nat.reduceSub, Array.replicate_succ, Array.replicate_zero, List.push_toArray, List.append_toArray, List.nil_append, List.cons_append]
  gi_wp2
  refine wpIn_wide.2 (wp_scope_jumps 0 (fun a u => ∃ D, a = { tmps := #[.string s, undef, .int .u32 0, .bool false, .pointer (some ⟨w.heap.size, 0, none⟩), .pointer (some ⟨w.heap.size + 1, 0, none⟩), undef, undef, undef, undef, .string s, .func (.func 80) #[] #[.pointer (some ⟨w.heap.size + 1 + 1, 0, none⟩), .pointer (some ⟨w.heap.size + 1 + 1 + 1, 0, none⟩)], undef, undef, undef, undef, undef, undef, undef, undef, undef, undef, undef, undef, undef, undef, undef, undef, undef, undef, undef, undef, undef, undef], defers := [{ target := .collected D, args := #[] }] } ∧ w.heap.size ≤ D ∧ u.heap[D]? = some (.deferred (some [])) ∧ Below w.heap.size w u ∧ R = none) (fun _ _ => 0) rfl ?first ?pass)
  case first =>
    refine (wpIn_wide (n := 6)).1 ?_
    gi_wp2_with (refine ⟨trivial, ?_⟩; gi_at_call 71; refine (callsIn_wide.2 (pieces_ok _ _ _)).mono ?_; rintro e w' ⟨rfl, rfl⟩)
    obtain ⟨W0, hW0⟩ : ∃ W0, (((w.alloc (.cells #[.int .u32 0] 51)).alloc (.cells #[.int .i64 0] 3)).alloc (.cells #[.string s] 9)).alloc (.cells #[.string ⟨#[46]⟩] 9) = W0 := ⟨_, rfl⟩
    have hz : W0.heap.size = w.heap.size + 4 := by rw [← hW0]; simp
    have hB0 : Below w.heap.size w W0 := by rw [← hW0]; go_grown
    have hk0 : Boxed W0 w.heap.size 51 (vA []) := by rw [← hW0]; exact (((Boxed.new w 51 _).alloc _).alloc _).alloc _
    have hk1 : Boxed W0 (w.heap.size + 1) 3 (vL []) := by
      have := Boxed.new (w.alloc (.cells #[.int .u32 0] 51)) 3 (.int .i64 0)
      rw [World.size_alloc] at this
      rw [← hW0]; exact (this.alloc _).alloc _
    have hk2 : Bk W0 (w.heap.size + 1 + 1) 9 #[.string s] := by
      have : Bk (((w.alloc (.cells #[.int .u32 0] 51)).alloc (.cells #[.int .i64 0] 3)).alloc (.cells #[.string s] 9)) (w.heap.size + 1 + 1) 9 #[.string s] := Bk.here (by simp)
      rw [← hW0]; exact this.alloc _
    have hk3 : Bk W0 (w.heap.size + 1 + 1 + 1) 9 #[.string ⟨#[46]⟩] := by rw [← hW0]; exact Bk.here (by simp)
    rw [hW0]
    clear hW0
    refine wpIn_rangeFunc_ownF rfl (by omega) (gf := 80) (lb := #[.pointer (some ⟨w.heap.size + 1 + 1, 0, none⟩), .pointer (some ⟨w.heap.size + 1 + 1 + 1, 0, none⟩)]) rfl trivial (enters_of Tryd.func80 (by kernel_rfl) rfl)
      (pieces1_stops 5 (by omega) (w.heap.size + 1 + 1) s 46 W0 hk2 hk3 hs) (fun h k => Kp2.t h k)
      (fun W l o o' hl ho _ _ => ⟨?kb1, ?kb2⟩) (Below.refl _ _) (fun _ => rfl)
      (fun pre W => Boxed W w.heap.size 51 (vA pre) ∧ Boxed W (w.heap.size + 1) 3 (vL pre) ∧ (∀ x ∈ pre, okA x.1 = true) ∧ w.heap.size + 4 ≤ W.heap.size ∧ Below w.heap.size w W)
      (fun c pre W => (c = .goto 0 ∧ ∃ x ∈ pre, okA x.1 = false) ∧ Below w.heap.size w W)
      (OwnFrom.and (Own.from (boxed_own _ _ _) _) (OwnFrom.and (Own.from (boxed_own _ _ _) _) (OwnFrom.and (ownFrom_pure _ _) (OwnFrom.and (ownFrom_size _ _) (ownFrom_below (Nat.le_refl _) (by omega))))))
      (fun c => OwnFrom.and (ownFrom_pure _ _) (ownFrom_below (Nat.le_refl _) (by omega)))
      ⟨hk0, hk1, (fun x hx => by cases hx), Nat.le_of_eq hz.symm, hB0⟩
      (fun x => { tmps := #[.string s, undef, .int .u32 0, .bool false, .pointer (some ⟨w.heap.size, 0, none⟩), .pointer (some ⟨w.heap.size + 1, 0, none⟩), .int .i64 (x.1.1 : Int), .string x.1.2, undef, undef, .string s, .func (.func 80) #[] #[.pointer (some ⟨w.heap.size + 1 + 1, 0, none⟩), .pointer (some ⟨w.heap.size + 1 + 1 + 1, 0, none⟩)], .int .i64 (x.1.1 : Int), .string x.1.2, undef, undef, undef, undef, undef, undef, undef, undef, undef, undef, undef, undef, undef, undef, undef, undef, undef, undef, undef, undef], defers := [] }) ?assign ?body ?done ?stop
    case kb1 => exact (grownBy_putObj' W l o').block _ (by have := (Array.getElem?_eq_some_iff.1 ho).1; omega) (fun e => by cases e; omega)
    case kb2 => exact (grownBy_putObj' W l o').block _ (by have := (Array.getElem?_eq_some_iff.1 ho).1; omega) (fun e => by cases e; omega)
    case assign =>
      intro l x W K hK
      gi_wp2
      exact hK
    case body =>
      rintro l pre x W ⟨hA, hL, hok, hWz, hB⟩ _
      have ca := hA.cell
      have fa := hA.frozen
      have cl := hL.cell
      have fl := hL.frozen
      obtain ⟨⟨k, P⟩, hP⟩ := x
      have HU := Lib.hid (fun u => upTo_ok 255 P u (by omega) hP)
      have hn1 : 1 ≤ 6 - 1 - 1 := by omega
      cases hu : upToO 255 P with
      | none =>
        rw [hu] at HU
        simp only [Option.getD_none, Option.isSome_none] at HU
        have HK := Lib.hid (show okA (k, P) = false by simp [okA, hu])
        clear hu
        gi_wp2_with (refine ⟨trivial, ?_⟩; gi_at_call 73; refine (CallsIn.inRound l (callsIn_wide.2 (HU.out _))).mono ?_; rintro e w2 ⟨rfl, hb2⟩)
        refine wpIn_goto ?_
        show KeepsOthers W w2 ∧ ((Code.goto 0 = .goto 0 ∧ ∃ y ∈ pre ++ [(⟨(k, P), hP⟩ : Pc)], okA y.1 = false) ∧ Below w.heap.size w w2)
        exact ⟨KeepsOthers.below hb2, ⟨rfl, _, List.mem_append.2 (.inr (List.mem_singleton.2 rfl)), HK.out⟩, hB.trans (hb2.mono hB.size)⟩
      | some v =>
        rw [hu] at HU
        simp only [Option.getD_some, Option.isSome_some] at HU
        have hv := (upToO_is _ _ _ hu).1
        by_cases h4 : k = 4
        · subst h4
          have HK := Lib.hid (show okA (4, P) = false by simp [okA])
          clear hu
          gi_wp2_with (refine ⟨trivial, ?_⟩; gi_at_call 73; refine (CallsIn.inRound l (callsIn_wide.2 (HU.out _))).mono ?_; rintro e w2 ⟨rfl, hb2⟩)
          refine wpIn_goto ?_
          show KeepsOthers W w2 ∧ ((Code.goto 0 = .goto 0 ∧ ∃ y ∈ pre ++ [(⟨(4, P), hP⟩ : Pc)], okA y.1 = false) ∧ Below w.heap.size w w2)
          exact ⟨KeepsOthers.below hb2, ⟨rfl, _, List.mem_append.2 (.inr (List.mem_singleton.2 rfl)), HK.out⟩, hB.trans (hb2.mono hB.size)⟩
        · have e4 : ((k : Int) == 4) = false := by rw [beq_eq_false_iff_ne]; omega
          have HK := Lib.hid (show okA (k, P) = true by simp [okA, hu, h4])
          obtain ⟨a, ha⟩ : ∃ a, (fA (pre.map (·.1))).1 = a := ⟨_, rfl⟩
          have hva : vA pre = .int .u32 (a : Int) := by rw [← ha]; rfl
          have ha2 : a < 4294967296 := by rw [← ha]; exact fA_lt _
          have HV := Lib.hid (show vA (pre ++ [(⟨(k, P), hP⟩ : Pc)]) = .int .u32 ((a * 256 + v) % 4294967296 : Nat) by rw [vA_snoc, ha, hu]; rfl)
          have HL2 := Lib.hid (vL_snoc pre ⟨(k, P), hP⟩)
          rw [hva] at hA ca
          obtain ⟨vl, hvl⟩ : ∃ vl, vL pre = vl := ⟨_, rfl⟩
          rw [hvl] at hL cl
          clear hu hva ha hvl h4
          gi_wp2_with (refine ⟨trivial, ?_⟩; gi_at_call 73; refine (CallsIn.inRound l (callsIn_wide.2 (HU.out _))).mono ?_; rintro e w2 ⟨rfl, hb2⟩; have hA2 := (hb2.block _ hA.lt).trans hA; have hL2 := (hb2.block _ hL.lt).trans hL; have ca2 := Boxed.cell hA2; have fa2 := Boxed.frozen hA2; have cl2 := Boxed.cell hL2; have fl2 := Boxed.frozen hL2)
          rw [or_byte a v ha2 hv, ← HV.out, ← HL2.out]
          have hs1 := (Boxed.set (vA (pre ++ [(⟨(k, P), hP⟩ : Pc)])) hA2).other (B' := w.heap.size + 1) (by omega) (vL (pre ++ [(⟨(k, P), hP⟩ : Pc)]))
          have hs2 := (Boxed.other hL2 (B' := w.heap.size) (by omega) (vA (pre ++ [(⟨(k, P), hP⟩ : Pc)]))).set (vL (pre ++ [(⟨(k, P), hP⟩ : Pc)]))
          refine ⟨(KeepsOthers.below hb2).trans ((KeepsOthers.setCell _ _ _).trans (KeepsOthers.setCell _ _ _)), ⟨?_, ?_⟩, hs1, hs2, ?_, ?_, ((hB.trans (hb2.mono hB.size)).setCell (p := ⟨w.heap.size, 0, none⟩) (Nat.le_refl _) _).setCell (p := ⟨w.heap.size + 1, 0, none⟩) (by show w.heap.size ≤ w.heap.size + 1; omega) _⟩
          · rw [Below.heap_setCell _ _ _ _ (by show w.heap.size + 1 + 1 ≠ w.heap.size + 1; omega), Below.heap_setCell _ _ _ _ (by show w.heap.size + 1 + 1 ≠ w.heap.size; omega)]
            exact hb2.block _ (by have := hWz; omega)
          · rw [Below.heap_setCell _ _ _ _ (by show w.heap.size + 1 + 1 + 1 ≠ w.heap.size + 1; omega), Below.heap_setCell _ _ _ _ (by show w.heap.size + 1 + 1 + 1 ≠ w.heap.size; omega)]
            exact hb2.block _ (by have := hWz; omega)
          · intro y hy
            rcases List.mem_append.1 hy with h | h
            · exact hok y h
            · obtain rfl : y = ⟨(k, P), hP⟩ := by simpa using h
              exact HK.out
          · have := hb2.size
            rw [World.size_setCell, World.size_setCell]; omega
    case done =>
      rintro D xs W hD hS ⟨hA, hL, hok, _, hB⟩ hK
      have hRv : R = if (fA (xs.map (·.1))).2 = 3 then some (fA (xs.map (·.1))).1 else none := by
        rw [HR.out]
        unfold addrO
        rw [hS]
        exact A_done _ (fun x hx => by rw [← hS] at hx; obtain ⟨y, hy, rfl⟩ := List.mem_map.1 hx; exact hok y hy)
      have ca := hA.cell
      have cl := hL.cell
      unfold vA at ca
      unfold vL at cl
      obtain ⟨a, ha⟩ : ∃ a, (fA (xs.map (·.1))).1 = a := ⟨_, rfl⟩
      obtain ⟨b, hb⟩ : ∃ b, (fA (xs.map (·.1))).2 = b := ⟨_, rfl⟩
      rw [ha] at ca hRv
      rw [hb] at cl hRv
      have HK := Lib.hid hK
      clear ha hb hA hL hok hS hK
      by_cases h3 : b = 3
      · subst h3
        have HRV := Lib.hid (show R = some a by rw [hRv]; rfl)
        clear hRv
        gi_wp2
        refine ⟨by simp, .inl ⟨_, _, rfl, run_takeDeferred HK.out, ?_⟩⟩
        rw [HRV.out]
        refine ⟨.tuple #[.int .u32 (a : Int), .bool true], ?_, rfl, hB.trans (belowK_b (w := w) (Nat.le_refl _) W D _ _ (by omega) HK.out rfl rfl)⟩
        simp [results, Tryd.f72, go_sem]
      · have e3 : ((b : Int) == 3) = false := by rw [beq_eq_false_iff_ne]; omega
        have HRV := Lib.hid (show R = none by rw [hRv, if_neg h3])
        clear hRv h3
        gi_wp2
        refine wpIn_label ?_
        gi_wp2
        refine ⟨by simp, .inl ⟨_, _, rfl, run_takeDeferred HK.out, ?_⟩⟩
        rw [HRV.out]
        refine ⟨.tuple #[.int .u32 0, .bool false], ?_, rfl, hB.trans (belowK_b (w := w) (Nat.le_refl _) W D _ _ (by omega) HK.out rfl rfl)⟩
        simp [results, Tryd.f72, go_sem]
    case stop =>
      rintro D c pre W hD hSp ⟨⟨rfl, x, hx, hbad⟩, hB⟩ hK
      have hRn : R = none := by
        rw [HR.out]
        exact A_stop _ _ hSp x.1 (List.mem_map.2 ⟨x, hx, rfl⟩) hbad
      refine wpIn_goto ?_
      refine ⟨rfl, D, rfl, by omega, hK, hB, hRn⟩
  case pass =>
    rintro a u ⟨D, rfl, hD, hK, hB, hRn⟩
    go_wp2
    refine ⟨by simp, .inl ⟨_, _, rfl, run_takeDeferred hK, ?_⟩⟩
    rw [hRn]
    refine ⟨.tuple #[.int .u32 0, .bool false], ?_, rfl, hB.trans (belowK_b (w := w) (Nat.le_refl _) u D _ _ (by omega) hK rfl rfl)⟩
    simp [results, Tryd.f72, go_sem]
end Go.Proofs.YtfpjkedcpnmfeaaDoor

/- syntax.Net: its contract. -/
namespace Go.Proofs.YtfpjkedcpnmfeaaDoor
set_option linter.unusedVariables false
set_option linter.unusedSimpArgs false
open Go.RowKit Go.Shelf
attribute [local go_sem] Oper.semAt_some

theorem bk_own {β : Type} (B : Nat) (t : TypeId) (f : β → Array Value) : Own (fun s W => Bk W B t (f s)) := fun s X Y row hs hg hrow => by
  refine (hg.block B (Bk.lt hs) (fun e => ?_)).trans hs
  obtain ⟨o, ho, hc⟩ := hrow B e.symm
  rw [show X.heap[B]? = _ from hs] at ho; cases ho; cases hc
theorem fN_lt (xs : List (Nat × ByteArray)) : (fN xs).addr < 4294967296 ∧ (fN xs).bits ≤ 32 := by
  induction hn : xs.length generalizing xs with
  | zero => obtain rfl := List.eq_nil_of_length_eq_zero hn; decide
  | succ n ih0 =>
    rcases List.eq_nil_or_concat xs with rfl | ⟨ys, y, rfl⟩
    · decide
    rw [List.concat_eq_append] at hn ⊢
    have ih := ih0 ys (by rw [List.length_append, List.length_singleton] at hn; omega)
    rw [fN_snoc]
    unfold stN
    obtain ⟨k, P⟩ := y
    match k with
    | 0 =>
      refine ⟨?_, ih.2⟩
      show (addrO P).getD 0 < 4294967296
      cases h : addrO P with
      | none => simp
      | some v => exact (addr_is P v h).1
    | 1 =>
      refine ⟨ih.1, ?_⟩
      show (upToO 32 P).getD 0 ≤ 32
      cases h : upToO 32 P with
      | none => simp
      | some v => exact (upToO_is 32 v P h).1
    | n + 2 => exact ih
def vN (pre : List Pc) : Array Value := #[.int .u32 ((fN (pre.map (·.1))).addr : Int), .int .i64 ((fN (pre.map (·.1))).bits : Int)]
def vNL (pre : List Pc) : Value := .int .i64 ((fN (pre.map (·.1))).last : Int)
theorem fN_snoc' (pre : List Pc) (x : Pc) : fN ((pre ++ [x]).map (·.1)) = stN (fN (pre.map (·.1))) x.1 := by
  rw [List.map_append]; simp only [List.map_cons, List.map_nil]; rw [fN_snoc]

set_option maxRecDepth 100000 in
set_option maxHeartbeats 4000000 in
theorem net_ok (s : ByteArray) (w : World) (hs : s.size ≤ 140737488355328) :
    Calls Tryd.prog 62 #[.string s] w fun e w' => e = .returned (.tuple #[.agg #[.int .u32 (((netO s).getD (0, 0)).1 : Nat), .int .i64 (((netO s).getD (0, 0)).2 : Nat)], .bool (netO s).isSome]) ∧ Below w.heap.size w w' := by
  obtain ⟨R, hR⟩ : ∃ R, R = netO s := ⟨_, rfl⟩
  rw [← hR]
  have HR := Lib.hid hR
  clear hR
  refine (callsIn_wide (n := 6)).1 ?_
  refine callsIn_of_wp_marks Tryd.func62 rfl trivial ?_ rfl
  simp only [Tryd.ntmps62, List.size_toArray, List.length_cons, List.length_nil, Nat.reduceAdd, Nat.reduceSub, Array.replicate_succ, Array.replicate_zero, List.push_toArray, List.append_toArray, List.nil_append, List.cons_append]
  gi_wp2
  refine wpIn_wide.2 (wp_scope_jumps 0 (fun a u => ∃ D, a = { tmps := #[.string s, undef, .pointer (some ⟨w.heap.size, 0, none⟩), .bool false, .pointer (some ⟨w.heap.size + 1, 0, none⟩), .pointer (some ⟨w.heap.size + 1 + 1, 0, none⟩), undef, undef, undef, .string s, .func (.func 80) #[] #[.pointer (some ⟨w.heap.size + 1 + 1 + 1, 0, none⟩), .pointer (some ⟨w.heap.size + 1 + 1 + 1 + 1, 0, none⟩)], undef, undef, undef, undef, undef, undef, undef, undef, undef, undef, undef, undef, undef, undef, undef, undef, undef, undef, undef, undef, undef, undef, undef, undef, undef, undef, undef, undef, undef, undef], defers := [{ target := .collected D, args := #[] }] } ∧ w.heap.size ≤ D ∧ u.heap[D]? = some (.deferred (some [])) ∧ Bk u w.heap.size 53 #[.int .u32 0, .int .i64 0] ∧ Below w.heap.size w u ∧ R = none) (fun _ _ => 0) rfl ?first ?pass)
  case first =>
    refine (wpIn_wide (n := 6)).1 ?_
    gi_wp2_with (refine ⟨trivial, ?_⟩; gi_at_call 71; refine (callsIn_wide.2 (pieces_ok _ _ _)).mono ?_; rintro e w' ⟨rfl, rfl⟩)
    obtain ⟨Wa, hWa⟩ : ∃ Wa, w.alloc (.cells #[.int .u32 0, .int .i64 0] 53) = Wa := ⟨_, rfl⟩
    obtain ⟨Wb, hWb⟩ : ∃ Wb, Wa.alloc (.cells #[.int .u32 0, .int .i64 0] 53) = Wb := ⟨_, rfl⟩
    obtain ⟨Wc, hWc⟩ : ∃ Wc, Wb.alloc (.cells #[.int .i64 0] 3) = Wc := ⟨_, rfl⟩
    obtain ⟨Wd, hWd⟩ : ∃ Wd, Wc.alloc (.cells #[.string s] 9) = Wd := ⟨_, rfl⟩
    obtain ⟨W0, hW0⟩ : ∃ W0, Wd.alloc (.cells #[.string ⟨#[47]⟩] 9) = W0 := ⟨_, rfl⟩
    rw [hWa, hWb, hWc, hWd, hW0]
    have za : Wa.heap.size = w.heap.size + 1 := by rw [← hWa, World.size_alloc]
    have zb : Wb.heap.size = w.heap.size + 1 + 1 := by rw [← hWb, World.size_alloc, za]
    have zc : Wc.heap.size = w.heap.size + 1 + 1 + 1 := by rw [← hWc, World.size_alloc, zb]
    have zd : Wd.heap.size = w.heap.size + 1 + 1 + 1 + 1 := by rw [← hWd, World.size_alloc, zc]
    have hz : W0.heap.size = w.heap.size + 5 := by rw [← hW0, World.size_alloc, zd]
    have hB0 : Below w.heap.size w W0 := by
      rw [← hW0, ← hWd, ← hWc, ← hWb, ← hWa]; go_grown
    have hkz : Bk W0 w.heap.size 53 #[.int .u32 0, .int .i64 0] := by
      have : Bk Wa w.heap.size 53 #[.int .u32 0, .int .i64 0] := by rw [← hWa]; exact Bk.here rfl
      rw [← hW0, ← hWd, ← hWc, ← hWb]; exact (((this.alloc _).alloc _).alloc _).alloc _
    have hkn : Bk W0 (w.heap.size + 1) 53 (vN []) := by
      have : Bk Wb (w.heap.size + 1) 53 #[.int .u32 0, .int .i64 0] := by rw [← hWb]; exact Bk.here za.symm
      rw [← hW0, ← hWd, ← hWc]; exact ((this.alloc _).alloc _).alloc _
    have hkl : Boxed W0 (w.heap.size + 1 + 1) 3 (vNL []) := by
      have : Bk Wc (w.heap.size + 1 + 1) 3 #[.int .i64 0] := by rw [← hWc]; exact Bk.here zb.symm
      rw [← hW0, ← hWd]; exact (this.alloc _).alloc _
    have hk2 : Bk W0 (w.heap.size + 1 + 1 + 1) 9 #[.string s] := by
      have : Bk Wd (w.heap.size + 1 + 1 + 1) 9 #[.string s] := by rw [← hWd]; exact Bk.here zc.symm
      rw [← hW0]; exact this.alloc _
    have hk3 : Bk W0 (w.heap.size + 1 + 1 + 1 + 1) 9 #[.string ⟨#[47]⟩] := by rw [← hW0]; exact Bk.here zd.symm
    clear hW0 hWa hWb hWc hWd za zb zc zd
    refine wpIn_rangeFunc_ownF rfl (by omega) (gf := 80) (lb := #[.pointer (some ⟨w.heap.size + 1 + 1 + 1, 0, none⟩), .pointer (some ⟨w.heap.size + 1 + 1 + 1 + 1, 0, none⟩)]) rfl trivial (enters_of Tryd.func80 (by kernel_rfl) rfl)
      (pieces1_stops 5 (by omega) (w.heap.size + 1 + 1 + 1) s 47 W0 hk2 hk3 hs) (fun h k => Kp2.t h k)
      (fun W l o o' hl ho _ _ => ⟨?kb1, ?kb2⟩) (Below.refl _ _) (fun _ => rfl)
      (fun pre W => Bk W (w.heap.size + 1) 53 (vN pre) ∧ Boxed W (w.heap.size + 1 + 1) 3 (vNL pre) ∧ Bk W w.heap.size 53 #[.int .u32 0, .int .i64 0] ∧ (∀ x ∈ pre, okN x.1 = true) ∧ w.heap.size + 5 ≤ W.heap.size ∧ Below w.heap.size w W)
      (fun c pre W => (c = .goto 0 ∧ ∃ x ∈ pre, okN x.1 = false) ∧ Bk W w.heap.size 53 #[.int .u32 0, .int .i64 0] ∧ Below w.heap.size w W)
      (OwnFrom.and (Own.from (bk_own _ _ _) _) (OwnFrom.and (Own.from (boxed_own _ _ _) _) (OwnFrom.and (Own.from (bk_own _ _ (fun _ => #[.int .u32 0, .int .i64 0])) _) (OwnFrom.and (ownFrom_pure _ _) (OwnFrom.and (ownFrom_size _ _) (ownFrom_below (Nat.le_refl _) (by omega)))))))
      (fun c => OwnFrom.and (ownFrom_pure _ _) (OwnFrom.and (Own.from (bk_own _ _ (fun _ => #[.int .u32 0, .int .i64 0])) _) (ownFrom_below (Nat.le_refl _) (by omega))))
      ⟨hkn, hkl, hkz, (fun x hx => by cases hx), Nat.le_of_eq hz.symm, hB0⟩
      (fun x => { tmps := #[.string s, undef, .pointer (some ⟨w.heap.size, 0, none⟩), .bool false, .pointer (some ⟨w.heap.size + 1, 0, none⟩), .pointer (some ⟨w.heap.size + 1 + 1, 0, none⟩), .int .i64 (x.1.1 : Int), .string x.1.2, undef, .string s, .func (.func 80) #[] #[.pointer (some ⟨w.heap.size + 1 + 1 + 1, 0, none⟩), .pointer (some ⟨w.heap.size + 1 + 1 + 1 + 1, 0, none⟩)], .int .i64 (x.1.1 : Int), .string x.1.2, undef, undef, undef, undef, undef, undef, undef, undef, undef, undef, undef, undef, undef, undef, undef, undef, undef, undef, undef, undef, undef, undef, undef, undef, undef, undef, undef, undef], defers := [] }) ?assign ?body ?done ?stop
    case kb1 => exact (grownBy_putObj' W l o').block _ (by have := (Array.getElem?_eq_some_iff.1 ho).1; omega) (fun e => by cases e; omega)
    case kb2 => exact (grownBy_putObj' W l o').block _ (by have := (Array.getElem?_eq_some_iff.1 ho).1; omega) (fun e => by cases e; omega)
    case assign =>
      intro l x W K hK
      gi_wp2
      exact hK
    case body =>
      rintro l pre x W ⟨hN, hL, hZ, hok, hWz, hB⟩ _
      obtain ⟨⟨k, P⟩, hP⟩ := x
      have hn1 : 1 ≤ 6 - 1 - 1 := by omega
      obtain ⟨a0, b0, l0, hv⟩ : ∃ a0 b0 l0, fN (pre.map (·.1)) = ⟨a0, b0, l0⟩ := ⟨_, _, _, rfl⟩
      have hvn : vN pre = #[.int .u32 (a0 : Int), .int .i64 (b0 : Int)] := by unfold vN; rw [hv]
      have hvl : vNL pre = .int .i64 (l0 : Int) := by unfold vNL; rw [hv]
      rw [hvn] at hN
      rw [hvl] at hL
      have HN0 := Lib.hid hN
      have HL0 := Lib.hid hL
      have HZ0 := Lib.hid hZ
      have HOK := Lib.hid hok
      have HF := Lib.hid (show fN ((pre ++ [(⟨(k, P), hP⟩ : Pc)]).map (·.1)) = stN ⟨a0, b0, l0⟩ (k, P) by rw [fN_snoc', hv])
      clear hN hL hZ hok hvn hvl hv
      by_cases h0 : k = 0
      · subst h0
        have HA := Lib.hid (fun u => addr_ok P u hP)
        cases ha : addrO P with
        | none =>
          rw [ha] at HA
          simp only [Option.getD_none, Option.isSome_none] at HA
          have HK := Lib.hid (show okN (0, P) = false by simp [okN, ha])
          clear ha
          gi_wp2
          refine ⟨trivial, ?_⟩
          refine (CallsIn.inRound l (callsIn_wide.2 (HA.out _))).mono ?_
          rintro e w2 ⟨rfl, hb2⟩
          have hN2 := HN0.out.below hb2 HN0.out.lt
          have hL2 : Boxed w2 (w.heap.size + 1 + 1) 3 (.int .i64 (l0 : Int)) := (hb2.block _ HL0.out.lt).trans HL0.out
          have cn0 : w2.cell? ⟨w.heap.size + 1, 0, none⟩ = some (.int .u32 (a0 : Int)) := by (rw [hN2.cell]; rfl)
          have cn1 : w2.cell? ⟨w.heap.size + 1, 1, none⟩ = some (.int .i64 (b0 : Int)) := by (rw [hN2.cell]; rfl)
          have fn0 := hN2.frozen 0
          have fn1 := hN2.frozen 1
          have cl2 := Boxed.cell hL2
          have fl2 := Boxed.frozen hL2
          gi_wp2
          refine wpIn_goto ?_
          show KeepsOthers W (w2.setCell ⟨w.heap.size + 1, 0, none⟩ (.int .u32 0)) ∧ ((Code.goto 0 = .goto 0 ∧ ∃ y ∈ pre ++ [(⟨(0, P), hP⟩ : Pc)], okN y.1 = false) ∧ Bk (w2.setCell ⟨w.heap.size + 1, 0, none⟩ (.int .u32 0)) w.heap.size 53 #[.int .u32 0, .int .i64 0] ∧ Below w.heap.size w (w2.setCell ⟨w.heap.size + 1, 0, none⟩ (.int .u32 0)))
          exact ⟨(KeepsOthers.below hb2).trans (KeepsOthers.setCell _ _ _), ⟨rfl, _, List.mem_append.2 (.inr (List.mem_singleton.2 rfl)), HK.out⟩, (HZ0.out.below hb2 HZ0.out.lt).far (by show w.heap.size ≠ w.heap.size + 1; omega) _, (hB.trans (hb2.mono hB.size)).setCell (p := ⟨w.heap.size + 1, 0, none⟩) (by show w.heap.size ≤ w.heap.size + 1; omega) _⟩
        | some a =>
          rw [ha] at HA
          simp only [Option.getD_some, Option.isSome_some] at HA
          have HK := Lib.hid (show okN (0, P) = true by simp [okN, ha])
          have HVN := Lib.hid (show vN (pre ++ [(⟨(0, P), hP⟩ : Pc)]) = #[.int .u32 (a : Int), .int .i64 (b0 : Int)] by unfold vN; rw [HF.out]; simp [stN, ha])
          have HVL := Lib.hid (show vNL (pre ++ [(⟨(0, P), hP⟩ : Pc)]) = .int .i64 0 by unfold vNL; rw [HF.out]; simp [stN, ha])
          clear ha
          gi_wp2
          refine ⟨trivial, ?_⟩
          refine (CallsIn.inRound l (callsIn_wide.2 (HA.out _))).mono ?_
          rintro e w2 ⟨rfl, hb2⟩
          have hN2 := HN0.out.below hb2 HN0.out.lt
          have hL2 : Boxed w2 (w.heap.size + 1 + 1) 3 (.int .i64 (l0 : Int)) := (hb2.block _ HL0.out.lt).trans HL0.out
          have cn0 : w2.cell? ⟨w.heap.size + 1, 0, none⟩ = some (.int .u32 (a0 : Int)) := by (rw [hN2.cell]; rfl)
          have cn1 : w2.cell? ⟨w.heap.size + 1, 1, none⟩ = some (.int .i64 (b0 : Int)) := by (rw [hN2.cell]; rfl)
          have fn0 := hN2.frozen 0
          have fn1 := hN2.frozen 1
          have cl2 := Boxed.cell hL2
          have fl2 := Boxed.frozen hL2
          gi_wp2
          refine ⟨(KeepsOthers.below hb2).trans ((KeepsOthers.setCell _ _ _).trans (KeepsOthers.setCell _ _ _)), ⟨?_, ?_⟩, ?_, ?_, ?_, ?_, ?_, ((hB.trans (hb2.mono hB.size)).setCell (p := ⟨w.heap.size + 1, 0, none⟩) (by show w.heap.size ≤ w.heap.size + 1; omega) _).setCell (p := ⟨w.heap.size + 1 + 1, 0, none⟩) (by show w.heap.size ≤ w.heap.size + 1 + 1; omega) _⟩
          · rw [Below.heap_setCell _ _ _ _ (by show w.heap.size + 1 + 1 + 1 ≠ w.heap.size + 1 + 1; omega), Below.heap_setCell _ _ _ _ (by show w.heap.size + 1 + 1 + 1 ≠ w.heap.size + 1; omega)]
            exact hb2.block _ (by omega)
          · rw [Below.heap_setCell _ _ _ _ (by show w.heap.size + 1 + 1 + 1 + 1 ≠ w.heap.size + 1 + 1; omega), Below.heap_setCell _ _ _ _ (by show w.heap.size + 1 + 1 + 1 + 1 ≠ w.heap.size + 1; omega)]
            exact hb2.block _ (by omega)
          · rw [HVN.out]
            exact (hN2.set 0 (.int .u32 (a : Int))).far (by show w.heap.size + 1 ≠ w.heap.size + 1 + 1; omega) _
          · rw [HVL.out]
            exact Boxed.set _ (show Boxed _ _ _ _ from Bk.far hL2 (p := ⟨w.heap.size + 1, 0, none⟩) (by show w.heap.size + 1 + 1 ≠ w.heap.size + 1; omega) (.int .u32 (a : Int)))
          · exact ((HZ0.out.below hb2 HZ0.out.lt).far (by show w.heap.size ≠ w.heap.size + 1; omega) _).far (by show w.heap.size ≠ w.heap.size + 1 + 1; omega) _
          · intro y hy
            rcases List.mem_append.1 hy with h | h
            · exact HOK.out y h
            · obtain rfl : y = ⟨(0, P), hP⟩ := by simpa using h
              exact HK.out
          · have := hb2.size
            rw [World.size_setCell, World.size_setCell]; omega
      by_cases h1 : k = 1
      · subst h1
        have HA := Lib.hid (fun u => upTo_ok 32 P u (by omega) hP)
        cases ha : upToO 32 P with
        | none =>
          rw [ha] at HA
          simp only [Option.getD_none, Option.isSome_none] at HA
          have HK := Lib.hid (show okN (1, P) = false by simp [okN, ha])
          clear ha
          gi_wp2
          refine ⟨trivial, ?_⟩
          refine (CallsIn.inRound l (callsIn_wide.2 (HA.out _))).mono ?_
          rintro e w2 ⟨rfl, hb2⟩
          have hN2 := HN0.out.below hb2 HN0.out.lt
          have hL2 : Boxed w2 (w.heap.size + 1 + 1) 3 (.int .i64 (l0 : Int)) := (hb2.block _ HL0.out.lt).trans HL0.out
          have cn0 : w2.cell? ⟨w.heap.size + 1, 0, none⟩ = some (.int .u32 (a0 : Int)) := by (rw [hN2.cell]; rfl)
          have cn1 : w2.cell? ⟨w.heap.size + 1, 1, none⟩ = some (.int .i64 (b0 : Int)) := by (rw [hN2.cell]; rfl)
          have fn0 := hN2.frozen 0
          have fn1 := hN2.frozen 1
          have cl2 := Boxed.cell hL2
          have fl2 := Boxed.frozen hL2
          gi_wp2
          refine wpIn_goto ?_
          show KeepsOthers W (w2.setCell ⟨w.heap.size + 1, 1, none⟩ (.int .i64 0)) ∧ ((Code.goto 0 = .goto 0 ∧ ∃ y ∈ pre ++ [(⟨(1, P), hP⟩ : Pc)], okN y.1 = false) ∧ Bk (w2.setCell ⟨w.heap.size + 1, 1, none⟩ (.int .i64 0)) w.heap.size 53 #[.int .u32 0, .int .i64 0] ∧ Below w.heap.size w (w2.setCell ⟨w.heap.size + 1, 1, none⟩ (.int .i64 0)))
          exact ⟨(KeepsOthers.below hb2).trans (KeepsOthers.setCell _ _ _), ⟨rfl, _, List.mem_append.2 (.inr (List.mem_singleton.2 rfl)), HK.out⟩, (HZ0.out.below hb2 HZ0.out.lt).far (by show w.heap.size ≠ w.heap.size + 1; omega) _, (hB.trans (hb2.mono hB.size)).setCell (p := ⟨w.heap.size + 1, 1, none⟩) (by show w.heap.size ≤ w.heap.size + 1; omega) _⟩
        | some a =>
          rw [ha] at HA
          simp only [Option.getD_some, Option.isSome_some] at HA
          have HK := Lib.hid (show okN (1, P) = true by simp [okN, ha])
          have HVN := Lib.hid (show vN (pre ++ [(⟨(1, P), hP⟩ : Pc)]) = #[.int .u32 (a0 : Int), .int .i64 (a : Int)] by unfold vN; rw [HF.out]; simp [stN, ha])
          have HVL := Lib.hid (show vNL (pre ++ [(⟨(1, P), hP⟩ : Pc)]) = .int .i64 1 by unfold vNL; rw [HF.out]; simp [stN, ha])
          clear ha
          gi_wp2
          refine ⟨trivial, ?_⟩
          refine (CallsIn.inRound l (callsIn_wide.2 (HA.out _))).mono ?_
          rintro e w2 ⟨rfl, hb2⟩
          have hN2 := HN0.out.below hb2 HN0.out.lt
          have hL2 : Boxed w2 (w.heap.size + 1 + 1) 3 (.int .i64 (l0 : Int)) := (hb2.block _ HL0.out.lt).trans HL0.out
          have cn0 : w2.cell? ⟨w.heap.size + 1, 0, none⟩ = some (.int .u32 (a0 : Int)) := by (rw [hN2.cell]; rfl)
          have cn1 : w2.cell? ⟨w.heap.size + 1, 1, none⟩ = some (.int .i64 (b0 : Int)) := by (rw [hN2.cell]; rfl)
          have fn0 := hN2.frozen 0
          have fn1 := hN2.frozen 1
          have cl2 := Boxed.cell hL2
          have fl2 := Boxed.frozen hL2
          gi_wp2
          refine ⟨(KeepsOthers.below hb2).trans ((KeepsOthers.setCell _ _ _).trans (KeepsOthers.setCell _ _ _)), ⟨?_, ?_⟩, ?_, ?_, ?_, ?_, ?_, ((hB.trans (hb2.mono hB.size)).setCell (p := ⟨w.heap.size + 1, 1, none⟩) (by show w.heap.size ≤ w.heap.size + 1; omega) _).setCell (p := ⟨w.heap.size + 1 + 1, 0, none⟩) (by show w.heap.size ≤ w.heap.size + 1 + 1; omega) _⟩
          · rw [Below.heap_setCell _ _ _ _ (by show w.heap.size + 1 + 1 + 1 ≠ w.heap.size + 1 + 1; omega), Below.heap_setCell _ _ _ _ (by show w.heap.size + 1 + 1 + 1 ≠ w.heap.size + 1; omega)]
            exact hb2.block _ (by omega)
          · rw [Below.heap_setCell _ _ _ _ (by show w.heap.size + 1 + 1 + 1 + 1 ≠ w.heap.size + 1 + 1; omega), Below.heap_setCell _ _ _ _ (by show w.heap.size + 1 + 1 + 1 + 1 ≠ w.heap.size + 1; omega)]
            exact hb2.block _ (by omega)
          · rw [HVN.out]
            exact (hN2.set 1 (.int .i64 (a : Int))).far (by show w.heap.size + 1 ≠ w.heap.size + 1 + 1; omega) _
          · rw [HVL.out]
            exact Boxed.set _ (show Boxed _ _ _ _ from Bk.far hL2 (p := ⟨w.heap.size + 1, 1, none⟩) (by show w.heap.size + 1 + 1 ≠ w.heap.size + 1; omega) (.int .i64 (a : Int)))
          · exact ((HZ0.out.below hb2 HZ0.out.lt).far (by show w.heap.size ≠ w.heap.size + 1; omega) _).far (by show w.heap.size ≠ w.heap.size + 1 + 1; omega) _
          · intro y hy
            rcases List.mem_append.1 hy with h | h
            · exact HOK.out y h
            · obtain rfl : y = ⟨(1, P), hP⟩ := by simpa using h
              exact HK.out
          · have := hb2.size
            rw [World.size_setCell, World.size_setCell]; omega
      have HK := Lib.hid (show okN (k, P) = false by
        match k, h0, h1 with
        | m + 2, _, _ => rfl)
      have e0 : ((k : Int) == 0) = false := by rw [beq_eq_false_iff_ne]; omega
      have e1 : ((k : Int) == 1) = false := by rw [beq_eq_false_iff_ne]; omega
      clear h0 h1
      gi_wp2
      refine wpIn_goto ?_
      show KeepsOthers W W ∧ ((Code.goto 0 = .goto 0 ∧ ∃ y ∈ pre ++ [(⟨(k, P), hP⟩ : Pc)], okN y.1 = false) ∧ Bk W w.heap.size 53 #[.int .u32 0, .int .i64 0] ∧ Below w.heap.size w W)
      exact ⟨KeepsOthers.refl _, ⟨rfl, _, List.mem_append.2 (.inr (List.mem_singleton.2 rfl)), HK.out⟩, HZ0.out, hB⟩
    case done =>
      rintro D xs W hD hS ⟨hN, hL, hZ, hok, hWz, hB⟩ hK
      obtain ⟨a0, b0, l0, hv⟩ : ∃ a0 b0 l0, fN (xs.map (·.1)) = ⟨a0, b0, l0⟩ := ⟨_, _, _, rfl⟩
      have hlt := fN_lt (xs.map (·.1))
      rw [hv] at hlt
      simp only at hlt
      have hRv : R = if l0 = 1 ∧ rightB a0 b0 = true then some (a0, b0) else none := by
        rw [HR.out]
        unfold netO
        have := N_done _ (fun x hx => by rw [← hS] at hx; obtain ⟨y, hy, rfl⟩ := List.mem_map.1 hx; exact hok y hy)
        rw [← hS, hv] at this
        exact this
      have hvn : vN xs = #[.int .u32 (a0 : Int), .int .i64 (b0 : Int)] := by unfold vN; rw [hv]
      have hvl : vNL xs = .int .i64 (l0 : Int) := by unfold vNL; rw [hv]
      rw [hvn] at hN
      rw [hvl] at hL
      have cl := hL.cell
      have n0 : W.cell? ⟨w.heap.size + 1, 0, none⟩ = some (.int .u32 (a0 : Int)) := by rw [hN.cell]; rfl
      have n1 : W.cell? ⟨w.heap.size + 1, 1, none⟩ = some (.int .i64 (b0 : Int)) := by rw [hN.cell]; rfl
      have HK := Lib.hid hK
      have HN := Lib.hid hN
      have HZ := Lib.hid hZ
      clear hv hN hL hok hS hK hvn hvl
      by_cases h3 : l0 = 1
      · subst h3
        have HRT := Lib.hid (fun u => right_ok a0 b0 u hlt.1)
        by_cases hr : rightB a0 b0 = true
        · have HRV := Lib.hid (show R = some (a0, b0) by rw [hRv, hr]; rfl)
          rw [hr] at HRT
          clear hRv hr hZ
          gi_wp2
          refine ⟨trivial, ?_⟩
          refine (callsIn_wide.2 (HRT.out _)).mono ?_
          rintro e W2 ⟨rfl, hb2⟩
          have hZ2 := HZ.out.below hb2 HZ.out.lt
          have hN2 := HN.out.below hb2 HN.out.lt
          have HK2 := Lib.hid ((hb2.block _ (Array.getElem?_eq_some_iff.1 HK.out).1).trans HK.out)
          have HB2 := Lib.hid (hB.trans (hb2.mono hB.size))
          have c0 : W2.cell? ⟨w.heap.size, 0, none⟩ = some (.int .u32 0) := by rw [Bk.cell hZ2]; rfl
          have c1 : W2.cell? ⟨w.heap.size, 1, none⟩ = some (.int .i64 0) := by rw [Bk.cell hZ2]; rfl
          have f0 := Bk.frozen hZ2 0
          have f1 := Bk.frozen hZ2 1
          have m0 : W2.cell? ⟨w.heap.size + 1, 0, none⟩ = some (.int .u32 (a0 : Int)) := by rw [hN2.cell]; rfl
          have m1 : W2.cell? ⟨w.heap.size + 1, 1, none⟩ = some (.int .i64 (b0 : Int)) := by rw [hN2.cell]; rfl
          have HZ2 := Lib.hid hZ2
          clear hZ2 hN2 hb2 cl n0 n1
          gi_wp2
          have hzz := ((HZ2.out).set 0 (.int .u32 (a0 : Int))).set 1 (.int .i64 (b0 : Int))
          have hKK := ((KeepsOthers.setCell W2 ⟨w.heap.size, 0, none⟩ (.int .u32 (a0 : Int))).trans (KeepsOthers.setCell _ ⟨w.heap.size, 1, none⟩ (.int .i64 (b0 : Int)))).same D _ HK2.out rfl
          have hBB : Below w.heap.size w ((W2.setCell ⟨w.heap.size, 0, none⟩ (.int .u32 (a0 : Int))).setCell ⟨w.heap.size, 1, none⟩ (.int .i64 (b0 : Int))) := ((HB2.out).setCell (p := ⟨w.heap.size, 0, none⟩) (Nat.le_refl _) _).setCell (p := ⟨w.heap.size, 1, none⟩) (Nat.le_refl _) _
          obtain ⟨u2, hu2⟩ : ∃ u2, (W2.setCell ⟨w.heap.size, 0, none⟩ (.int .u32 (a0 : Int))).setCell ⟨w.heap.size, 1, none⟩ (.int .i64 (b0 : Int)) = u2 := ⟨_, rfl⟩
          rw [hu2] at hzz hKK hBB ⊢
          refine ⟨by simp, .inl ⟨_, _, rfl, run_takeDeferred hKK, ?_⟩⟩
          have hz3 : Bk (u2.putObj D (.deferred none)) w.heap.size 53 #[.int .u32 (a0 : Int), .int .i64 (b0 : Int)] := ((grownBy_putObj' u2 D (.deferred none)).block _ hzz.lt (fun e => by injection e with e; rw [← e] at hKK; rw [show u2.heap[w.heap.size]? = _ from hzz] at hKK; cases hKK)).trans hzz
          have q0 : (u2.putObj D (.deferred none)).cell? ⟨w.heap.size, 0, none⟩ = some (.int .u32 (a0 : Int)) := by rw [hz3.cell]; rfl
          have q1 : (u2.putObj D (.deferred none)).cell? ⟨w.heap.size, 1, none⟩ = some (.int .i64 (b0 : Int)) := by rw [hz3.cell]; rfl
          rw [HRV.out]
          refine ⟨.tuple #[.agg #[.int .u32 (a0 : Int), .int .i64 (b0 : Int)], .bool true], ?_, rfl, hBB.trans (belowK_b (w := w) (Nat.le_refl _) u2 D _ _ (by omega) hKK rfl rfl)⟩
          simp [results, Tryd.f62, go_sem, q0, q1]
        · have hr2 : rightB a0 b0 = false := by simpa using hr
          have HRV := Lib.hid (show R = none by rw [hRv, hr2]; rfl)
          rw [hr2] at HRT
          clear hRv hr hr2 hZ
          gi_wp2
          refine ⟨trivial, ?_⟩
          refine (callsIn_wide.2 (HRT.out _)).mono ?_
          rintro e W2 ⟨rfl, hb2⟩
          have hZ2 := HZ.out.below hb2 HZ.out.lt
          have HK2 := Lib.hid ((hb2.block _ (Array.getElem?_eq_some_iff.1 HK.out).1).trans HK.out)
          have HB2 := Lib.hid (hB.trans (hb2.mono hB.size))
          have c0 : W2.cell? ⟨w.heap.size, 0, none⟩ = some (.int .u32 0) := by rw [Bk.cell hZ2]; rfl
          have c1 : W2.cell? ⟨w.heap.size, 1, none⟩ = some (.int .i64 0) := by rw [Bk.cell hZ2]; rfl
          have f0 := Bk.frozen hZ2 0
          have f1 := Bk.frozen hZ2 1
          have HZ2 := Lib.hid hZ2
          clear hZ2 hb2 cl n0 n1
          gi_wp2
          refine wpIn_label ?_
          gi_wp2
          have hzz := ((HZ2.out).set 0 (.int .u32 0)).set 1 (.int .i64 0)
          have hKK := ((KeepsOthers.setCell W2 ⟨w.heap.size, 0, none⟩ (.int .u32 0)).trans (KeepsOthers.setCell _ ⟨w.heap.size, 1, none⟩ (.int .i64 0))).same D _ HK2.out rfl
          have hBB : Below w.heap.size w ((W2.setCell ⟨w.heap.size, 0, none⟩ (.int .u32 0)).setCell ⟨w.heap.size, 1, none⟩ (.int .i64 0)) := ((HB2.out).setCell (p := ⟨w.heap.size, 0, none⟩) (Nat.le_refl _) _).setCell (p := ⟨w.heap.size, 1, none⟩) (Nat.le_refl _) _
          obtain ⟨u2, hu2⟩ : ∃ u2, (W2.setCell ⟨w.heap.size, 0, none⟩ (.int .u32 0)).setCell ⟨w.heap.size, 1, none⟩ (.int .i64 0) = u2 := ⟨_, rfl⟩
          rw [hu2] at hzz hKK hBB ⊢
          refine ⟨by simp, .inl ⟨_, _, rfl, run_takeDeferred hKK, ?_⟩⟩
          have hz3 : Bk (u2.putObj D (.deferred none)) w.heap.size 53 #[.int .u32 0, .int .i64 0] := ((grownBy_putObj' u2 D (.deferred none)).block _ hzz.lt (fun e => by injection e with e; rw [← e] at hKK; rw [show u2.heap[w.heap.size]? = _ from hzz] at hKK; cases hKK)).trans hzz
          have q0 : (u2.putObj D (.deferred none)).cell? ⟨w.heap.size, 0, none⟩ = some (.int .u32 0) := by rw [hz3.cell]; rfl
          have q1 : (u2.putObj D (.deferred none)).cell? ⟨w.heap.size, 1, none⟩ = some (.int .i64 0) := by rw [hz3.cell]; rfl
          rw [HRV.out]
          refine ⟨.tuple #[.agg #[.int .u32 0, .int .i64 0], .bool false], ?_, rfl, hBB.trans (belowK_b (w := w) (Nat.le_refl _) u2 D _ _ (by omega) hKK rfl rfl)⟩
          simp [results, Tryd.f62, go_sem, q0, q1]
      · have e3 : ((l0 : Int) == 1) = false := by rw [beq_eq_false_iff_ne]; omega
        have HRV := Lib.hid (show R = none by rw [hRv, if_neg (fun h => h3 h.1)])
        clear hRv h3
        have c0 : W.cell? ⟨w.heap.size, 0, none⟩ = some (.int .u32 0) := by rw [Bk.cell hZ]; rfl
        have c1 : W.cell? ⟨w.heap.size, 1, none⟩ = some (.int .i64 0) := by rw [Bk.cell hZ]; rfl
        have f0 := Bk.frozen hZ 0
        have f1 := Bk.frozen hZ 1
        clear hZ
        gi_wp2
        refine ⟨trivial, ?_⟩
        gi_wp2
        refine wpIn_label ?_
        gi_wp2
        have hzz := ((HZ.out).set 0 (.int .u32 0)).set 1 (.int .i64 0)
        have hKK := ((KeepsOthers.setCell W ⟨w.heap.size, 0, none⟩ (.int .u32 0)).trans (KeepsOthers.setCell _ ⟨w.heap.size, 1, none⟩ (.int .i64 0))).same D _ HK.out rfl
        have hBB : Below w.heap.size w ((W.setCell ⟨w.heap.size, 0, none⟩ (.int .u32 0)).setCell ⟨w.heap.size, 1, none⟩ (.int .i64 0)) := ((hB).setCell (p := ⟨w.heap.size, 0, none⟩) (Nat.le_refl _) _).setCell (p := ⟨w.heap.size, 1, none⟩) (Nat.le_refl _) _
        obtain ⟨u2, hu2⟩ : ∃ u2, (W.setCell ⟨w.heap.size, 0, none⟩ (.int .u32 0)).setCell ⟨w.heap.size, 1, none⟩ (.int .i64 0) = u2 := ⟨_, rfl⟩
        rw [hu2] at hzz hKK hBB ⊢
        refine ⟨by simp, .inl ⟨_, _, rfl, run_takeDeferred hKK, ?_⟩⟩
        have hz3 : Bk (u2.putObj D (.deferred none)) w.heap.size 53 #[.int .u32 0, .int .i64 0] := ((grownBy_putObj' u2 D (.deferred none)).block _ hzz.lt (fun e => by injection e with e; rw [← e] at hKK; rw [show u2.heap[w.heap.size]? = _ from hzz] at hKK; cases hKK)).trans hzz
        have q0 : (u2.putObj D (.deferred none)).cell? ⟨w.heap.size, 0, none⟩ = some (.int .u32 0) := by rw [hz3.cell]; rfl
        have q1 : (u2.putObj D (.deferred none)).cell? ⟨w.heap.size, 1, none⟩ = some (.int .i64 0) := by rw [hz3.cell]; rfl
        rw [HRV.out]
        refine ⟨.tuple #[.agg #[.int .u32 0, .int .i64 0], .bool false], ?_, rfl, hBB.trans (belowK_b (w := w) (Nat.le_refl _) u2 D _ _ (by omega) hKK rfl rfl)⟩
        simp [results, Tryd.f62, go_sem, q0, q1]
    case stop =>
      rintro D c pre W hD hSp ⟨⟨rfl, x, hx, hbad⟩, hZ, hB⟩ hK
      have hRn : R = none := by
        rw [HR.out]
        exact N_stop _ _ hSp x.1 (List.mem_map.2 ⟨x, hx, rfl⟩) hbad
      refine wpIn_goto ?_
      refine ⟨rfl, D, rfl, by omega, hK, hZ, hB, hRn⟩
  case pass =>
    rintro a u ⟨D, rfl, hD, hK, hZ, hB, hRn⟩
    have hc0 : u.cell? ⟨w.heap.size, 0, none⟩ = some (.int .u32 0) := by rw [hZ.cell]; rfl
    have hc1 : u.cell? ⟨w.heap.size, 1, none⟩ = some (.int .i64 0) := by rw [hZ.cell]; rfl
    have hf0 : u.frozen? ⟨w.heap.size, 0, none⟩ = false := hZ.frozen 0
    have hf1 : u.frozen? ⟨w.heap.size, 1, none⟩ = false := hZ.frozen 1
    have HZ := Lib.hid hZ
    clear hZ
    go_wp2
    have hzz := ((HZ.out).set 0 (.int .u32 0)).set 1 (.int .i64 0)
    have hKK := ((KeepsOthers.setCell u ⟨w.heap.size, 0, none⟩ (.int .u32 0)).trans (KeepsOthers.setCell _ ⟨w.heap.size, 1, none⟩ (.int .i64 0))).same D _ hK rfl
    have hBB : Below w.heap.size w ((u.setCell ⟨w.heap.size, 0, none⟩ (.int .u32 0)).setCell ⟨w.heap.size, 1, none⟩ (.int .i64 0)) := ((hB).setCell (p := ⟨w.heap.size, 0, none⟩) (Nat.le_refl _) _).setCell (p := ⟨w.heap.size, 1, none⟩) (Nat.le_refl _) _
    obtain ⟨u2, hu2⟩ : ∃ u2, (u.setCell ⟨w.heap.size, 0, none⟩ (.int .u32 0)).setCell ⟨w.heap.size, 1, none⟩ (.int .i64 0) = u2 := ⟨_, rfl⟩
    rw [hu2] at hzz hKK hBB ⊢
    refine ⟨by simp, .inl ⟨_, _, rfl, run_takeDeferred hKK, ?_⟩⟩
    have hz3 : Bk (u2.putObj D (.deferred none)) w.heap.size 53 #[.int .u32 0, .int .i64 0] := ((grownBy_putObj' u2 D (.deferred none)).block _ hzz.lt (fun e => by injection e with e; rw [← e] at hKK; rw [show u2.heap[w.heap.size]? = _ from hzz] at hKK; cases hKK)).trans hzz
    have q0 : (u2.putObj D (.deferred none)).cell? ⟨w.heap.size, 0, none⟩ = some (.int .u32 0) := by rw [hz3.cell]; rfl
    have q1 : (u2.putObj D (.deferred none)).cell? ⟨w.heap.size, 1, none⟩ = some (.int .i64 0) := by rw [hz3.cell]; rfl
    rw [hRn]
    refine ⟨.tuple #[.agg #[.int .u32 0, .int .i64 0], .bool false], ?_, rfl, hBB.trans (belowK_b (w := w) (Nat.le_refl _) u2 D _ _ (by omega) hKK rfl rfl)⟩
    simp [results, Tryd.f62, go_sem, q0, q1]
end Go.Proofs.YtfpjkedcpnmfeaaDoor
