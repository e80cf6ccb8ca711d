/- CfgN, Iw, Bits: texts of this seat, one behind the other. -/
import Derived.Test.YtekobdmlgbffnaaGreatDoorG2
import Derived.Test.YtekobdmlgbffnaaGreatDoorG1
import Derived.Test.YtekobdmlgbffnaaGreatDoorChecked
import Derived.Deep.QuietTactic
import Derived.BigQuiet
/- Configurations, there and back: plain mathematics. -/
namespace Go.Proofs.YtekobdmlgbffnaaGreatDoor
set_option linter.unusedVariables false
set_option maxRecDepth 100000
set_option linter.unusedSimpArgs false

/-! ### Words without blanks and ends -/

def fineW (w : List UInt8) : Prop := ∀ c ∈ w, 45 ≤ c.toNat
def fineL (ws : List (List UInt8)) : Prop := ws ≠ [] ∧ ∀ w ∈ ws, fineW w
theorem rise_names : ∀ (l : List ByteArray) (last : ByteArray), rise last l = true → ∀ x ∈ l, nameB x = true
  | [], _, _, x, h => by cases h
  | y :: r, last, h, x, hx => by
    simp only [rise, Bool.and_eq_true] at h
    rcases List.mem_cons.1 hx with rfl | hx
    · exact h.1.1
    · exact rise_names r y h.2 x hx
theorem cfgB_parts {c : Cg} (h : cfgB c = true) : timB c.wait = true ∧ timB c.grace = true ∧ timB c.idle = true ∧ timB c.lease = true ∧ c.tens.length ≤ 8 ∧ rise ByteArray.empty (c.tens.map (·.name)) = true ∧ (∀ t ∈ c.tens, tenB t = true) := by
  unfold cfgB at h
  simp only [Bool.and_eq_true, decide_eq_true_eq, List.all_eq_true] at h
  obtain ⟨⟨⟨⟨⟨⟨a, b⟩, d⟩, e⟩, f⟩, g⟩, i⟩ := h
  exact ⟨a, b, d, e, f, g, i⟩
theorem tenB_parts {t : Tn} (h : tenB t = true) : quoB t.names = true ∧ quoB t.visitors = true ∧ t.nets.length ≤ 4 ∧ (∀ n ∈ t.nets, netB n = true) ∧ t.toks.length ≤ 4 ∧ rise ByteArray.empty (t.toks.map (·.name)) = true ∧ (∀ k ∈ t.toks, tokB k = true) := by
  unfold tenB at h
  simp only [Bool.and_eq_true, decide_eq_true_eq, List.all_eq_true] at h
  obtain ⟨⟨⟨⟨⟨⟨a, b⟩, d⟩, e⟩, f⟩, g⟩, i⟩ := h
  exact ⟨a, b, d, e, f, g, i⟩
/-! ### What is printed is read -/

def runW : Cg → Nat → List (List (List UInt8)) → Option Cg
  | c, _, [] => some c
  | c, at', ws :: r => match lineC c (at' == 0) ws with
    | some c' => runW c' (at' + 1) r
    | none => none
def cT (c : Cg) (T : List Tn) : Cg := { c with tens := T }
def netsLt (c : Cg) : Prop := ∀ t ∈ c.tens, ∀ n ∈ t.nets, n.addr < 4294967296

/-! ### What is read is printed -/

end Go.Proofs.YtekobdmlgbffnaaGreatDoor

/- A number that lies in its range. -/
namespace Go.Proofs.YtekobdmlgbffnaaGreatDoor
set_option linter.unusedVariables false
set_option maxRecDepth 100000
set_option linter.unusedSimpArgs false
open Go.RowKit
theorem iwrap (x : Int) (n : Nat) (h : x = (n : Int)) (hn : n ≤ 9223372036854775807) : IntKind.i64.wrap x = (n : Int) ∧ wrap64 x = (n : Int) := by
  subst h
  constructor
  · rw [IntKind.wrap_i64]; omega
  · unfold wrap64; omega
end Go.Proofs.YtekobdmlgbffnaaGreatDoor

/- Words turned: the contracts of right, turned, moved. -/
namespace Go.Proofs.YtekobdmlgbffnaaGreatDoor
set_option linter.unusedVariables false
set_option maxRecDepth 100000
set_option linter.unusedSimpArgs false
open Go.RowKit

theorem neg_and31 (n m : Nat) (h1 : 1 ≤ n) (h2 : n + m = 32) : bits .and .u64 (IntKind.u64.wrap (-(n : Int))) 31 = (m : Int) := by
  have e : IntKind.u64.wrap (-(n : Int)) = ((18446744073709551616 - n : Nat) : Int) := by rw [IntKind.wrap_u64]; omega
  have := u64_and_nat (18446744073709551616 - n) 31 (by omega) (by omega)
  rw [e]
  refine Eq.trans this ?_
  rw [nat_mask5]
  omega

theorem right_ok (x n : Nat) (w : World) (hx : x < 4294967296) (h1 : 1 ≤ n) (h2 : n ≤ 31) :
    Calls Tryz.prog 174 #[wd x, .int .i64 n] w fun e w' => e = .returned (wd (rotr x n)) ∧ w' = w := by
  obtain ⟨m, hm⟩ : ∃ m, n + m = 32 := ⟨32 - n, by omega⟩
  have hk := neg_and31 n m h1 hm
  have hw : IntKind.u64.wrap (32 - (m : Int)) = (n : Int) := by rw [IntKind.wrap_u64]; omega
  have e1 : (min n 32 : Nat) = n := by omega
  have e2 : (min m 32 : Nat) = m := by omega
  go_enter Tryz.func174, Tryz.ntmps174
  go_wp2
  go_ret
  refine ⟨?_, rfl⟩
  have e3 : (x : Int) * 2 ^ m % 4294967296 = ((wshl x m : Nat) : Int) := v_shl x m
  have e4 : (x : Int) / 2 ^ n = ((wshr x n : Nat) : Int) := w_shr x n hx
  show Ending.returned (.int .u32 (bits .or .u32 ((x : Int) * 2 ^ m % 4294967296) ((x : Int) / 2 ^ n))) = _
  rw [e3, e4, w_or, wor_comm]
  have e5 : m = 32 - n := by omega
  rw [e5]
  rfl

theorem Below.drewN' {B : Nat} {a w : World} (h : Below B a w) (n : Nat) : Below B a (w.drewN n) := ⟨h.os, h.tape, h.output, h.size, h.block⟩

theorem turned_ok (x a b c : Nat) (w : World) (hx : x < 4294967296) (ha : 1 ≤ a ∧ a ≤ 31) (hb : 1 ≤ b ∧ b ≤ 31) (hc : 1 ≤ c ∧ c ≤ 31) :
    Calls Tryz.prog 169 #[wd x, .agg #[.int .i64 a, .int .i64 b, .int .i64 c]] w fun e w' => e = .returned (wd (great x a b c)) ∧ Below w.heap.size w w' := by
  have hX : ∀ x y : Nat, bits .xor .u32 (x : Int) (y : Int) = ((wxor x y : Nat) : Int) := w_xor
  go_enter Tryz.func169, Tryz.ntmps169
  go_wp2_with fail
  go_quiet (first
    | (go_at_call_of 174 (Value.int .i64 (a : Int)); exact Calls.quiet_of_same (right_ok x a _ hx ha.1 ha.2))
    | (go_at_call_of 174 (Value.int .i64 (b : Int)); exact Calls.quiet_of_same (right_ok x b _ hx hb.1 hb.2))
    | (go_at_call_of 174 (Value.int .i64 (c : Int)); exact Calls.quiet_of_same (right_ok x c _ hx hc.1 hc.2)))
  go_wp2_with fail
  go_ret
  exact ⟨rfl, Below.drewN' (by go_grown) _⟩

theorem moved_ok (x a b c : Nat) (w : World) (hx : x < 4294967296) (ha : 1 ≤ a ∧ a ≤ 31) (hb : 1 ≤ b ∧ b ≤ 31) (hc : 1 ≤ c ∧ c ≤ 31) :
    Calls Tryz.prog 170 #[wd x, .agg #[.int .i64 a, .int .i64 b, .int .i64 c]] w fun e w' => e = .returned (wd (small x a b c)) ∧ Below w.heap.size w w' := by
  have hX : ∀ x y : Nat, bits .xor .u32 (x : Int) (y : Int) = ((wxor x y : Nat) : Int) := w_xor
  have hS : (x : Int) / 2 ^ c = ((wshr x c : Nat) : Int) := w_shr x c hx
  have hm : (min c 32 : Nat) = c := by omega
  go_enter Tryz.func170, Tryz.ntmps170
  go_wp2_with fail
  go_quiet (first
    | (go_at_call_of 174 (Value.int .i64 (a : Int)); exact Calls.quiet_of_same (right_ok x a _ hx ha.1 ha.2))
    | (go_at_call_of 174 (Value.int .i64 (b : Int)); exact Calls.quiet_of_same (right_ok x b _ hx hb.1 hb.2)))
  go_wp2_with fail
  go_ret
  exact ⟨rfl, Below.drewN' (by go_grown) _⟩

end Go.Proofs.YtekobdmlgbffnaaGreatDoor
