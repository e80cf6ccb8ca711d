/- Words turned: the contracts of right, turned, moved. -/
import Derived.Test.YtoekdiefbpnekaaDoorChecked
import Derived.Test.YtoekdiefbpnekaaDoorWord
import Derived.Test.YtoekdiefbpnekaaDoorBase
import Derived.Test.YtoekdiefbpnekaaDoorRegion
import Derived.Deep.QuietTactic
import Derived.BigQuiet
namespace Go.Proofs.YtoekdiefbpnekaaDoor
set_option linter.unusedVariables false
set_option linter.unusedSimpArgs false
open Go.RowKit

theorem iwrap (x : Int) (n : Nat) (h : x = (n : Int)) (hn : n ≤ 9223372036854775807) : IntKind.i64.wrap x = (n : Int) ∧ wrap64 x = (n : Int) := by
  subst h
  constructor
  · rw [IntKind.wrap_i64]; omega
  · unfold wrap64; omega
theorem neg_and31 (n m : Nat) (h1 : 1 ≤ n) (h2 : n + m = 32) : bits .and .u64 (IntKind.u64.wrap (-(n : Int))) 31 = (m : Int) := by
  have e : IntKind.u64.wrap (-(n : Int)) = ((18446744073709551616 - n : Nat) : Int) := by rw [IntKind.wrap_u64]; omega
  have := u64_and_nat (18446744073709551616 - n) 31 (by omega) (by omega)
  rw [e]
  refine Eq.trans this ?_
  rw [nat_mask5]
  omega

theorem right_ok (x n : Nat) (w : World) (hx : x < 4294967296) (h1 : 1 ≤ n) (h2 : n ≤ 31) :
    Calls Tryd.prog 57 #[wd x, .int .i64 n] w fun e w' => e = .returned (wd (rotr x n)) ∧ w' = w := by
  obtain ⟨m, hm⟩ : ∃ m, n + m = 32 := ⟨32 - n, by omega⟩
  have hk := neg_and31 n m h1 hm
  have hw : IntKind.u64.wrap (32 - (m : Int)) = (n : Int) := by rw [IntKind.wrap_u64]; omega
  have e1 : (min n 32 : Nat) = n := by omega
  have e2 : (min m 32 : Nat) = m := by omega
  go_enter Tryd.func57, Tryd.ntmps57
  go_wp2
  go_ret
  refine ⟨?_, rfl⟩
  have e3 : (x : Int) * 2 ^ m % 4294967296 = ((wshl x m : Nat) : Int) := v_shl x m
  have e4 : (x : Int) / 2 ^ n = ((wshr x n : Nat) : Int) := w_shr x n hx
  show Ending.returned (.int .u32 (bits .or .u32 ((x : Int) * 2 ^ m % 4294967296) ((x : Int) / 2 ^ n))) = _
  rw [e3, e4, w_or, wor_comm]
  have e5 : m = 32 - n := by omega
  rw [e5]
  rfl

theorem drewN_add (w : World) (a b : Nat) : (w.drewN a).drewN b = w.drewN (a + b) := by unfold World.drewN; simp [Nat.add_assoc]
theorem Below.drewN' {B : Nat} {a w : World} (h : Below B a w) (n : Nat) : Below B a (w.drewN n) := ⟨h.os, h.tape, h.output, h.size, h.block⟩

theorem turned_ok (x a b c : Nat) (w : World) (hx : x < 4294967296) (ha : 1 ≤ a ∧ a ≤ 31) (hb : 1 ≤ b ∧ b ≤ 31) (hc : 1 ≤ c ∧ c ≤ 31) :
    Calls Tryd.prog 51 #[wd x, .agg #[.int .i64 a, .int .i64 b, .int .i64 c]] w fun e w' => e = .returned (wd (great x a b c)) ∧ Below w.heap.size w w' := by
  have hX : ∀ x y : Nat, bits .xor .u32 (x : Int) (y : Int) = ((wxor x y : Nat) : Int) := w_xor
  go_enter Tryd.func51, Tryd.ntmps51
  go_wp2_with fail
  go_quiet (first
    | (go_at_call_of 57 (Value.int .i64 (a : Int)); exact Calls.quiet_of_same (right_ok x a _ hx ha.1 ha.2))
    | (go_at_call_of 57 (Value.int .i64 (b : Int)); exact Calls.quiet_of_same (right_ok x b _ hx hb.1 hb.2))
    | (go_at_call_of 57 (Value.int .i64 (c : Int)); exact Calls.quiet_of_same (right_ok x c _ hx hc.1 hc.2)))
  go_wp2_with fail
  go_ret
  exact ⟨rfl, Below.drewN' (by go_grown) _⟩

theorem moved_ok (x a b c : Nat) (w : World) (hx : x < 4294967296) (ha : 1 ≤ a ∧ a ≤ 31) (hb : 1 ≤ b ∧ b ≤ 31) (hc : 1 ≤ c ∧ c ≤ 31) :
    Calls Tryd.prog 52 #[wd x, .agg #[.int .i64 a, .int .i64 b, .int .i64 c]] w fun e w' => e = .returned (wd (small x a b c)) ∧ Below w.heap.size w w' := by
  have hX : ∀ x y : Nat, bits .xor .u32 (x : Int) (y : Int) = ((wxor x y : Nat) : Int) := w_xor
  have hS : (x : Int) / 2 ^ c = ((wshr x c : Nat) : Int) := w_shr x c hx
  have hm : (min c 32 : Nat) = c := by omega
  go_enter Tryd.func52, Tryd.ntmps52
  go_wp2_with fail
  go_quiet (first
    | (go_at_call_of 57 (Value.int .i64 (a : Int)); exact Calls.quiet_of_same (right_ok x a _ hx ha.1 ha.2))
    | (go_at_call_of 57 (Value.int .i64 (b : Int)); exact Calls.quiet_of_same (right_ok x b _ hx hb.1 hb.2)))
  go_wp2_with fail
  go_ret
  exact ⟨rfl, Below.drewN' (by go_grown) _⟩

/-! The document's own. -/
theorem turn_ok (x n : Nat) (w : World) (hx : x < 4294967296) (h1 : 1 ≤ n) (h2 : n ≤ 31) :
    Calls Tryd.prog 54 #[wd x, .int .i64 n] w fun e w' => e = .returned (wd (rotr x n)) ∧ ∃ m, w' = w.drewN m := by
  obtain ⟨m, hm⟩ : ∃ m, n + m = 32 := ⟨32 - n, by omega⟩
  have hw2 : wrap64 (32 - (n : Int)) = (m : Int) := by unfold wrap64; omega
  have hw : IntKind.i64.wrap (32 - (n : Int)) = (m : Int) := by rw [IntKind.wrap_i64]; omega
  have e1 : (min n 32 : Nat) = n := by omega
  have e2 : (min m 32 : Nat) = m := by omega
  have e3 : (x : Int) * 2 ^ m % 4294967296 = ((wshl x m : Nat) : Int) := v_shl x m
  have e4 : (x : Int) / 2 ^ n = ((wshr x n : Nat) : Int) := w_shr x n hx
  have hO : ∀ x y : Nat, bits .or .u32 (x : Int) (y : Int) = ((wor x y : Nat) : Int) := w_or
  go_enter Tryd.func54, Tryd.ntmps54
  go_wp2_with fail
  go_quiet (fail)
  go_wp2_with fail
  go_ret
  have e5 : m = 32 - n := by omega
  rw [rotr, ← e5]
  exact ⟨rfl, _, rfl⟩

theorem rgreat_ok (x a b c : Nat) (w : World) (hx : x < 4294967296) (ha : 1 ≤ a ∧ a ≤ 31) (hb : 1 ≤ b ∧ b ≤ 31) (hc : 1 ≤ c ∧ c ≤ 31) :
    Calls Tryd.prog 47 #[wd x, .int .i64 a, .int .i64 b, .int .i64 c] w fun e w' => e = .returned (wd (great x a b c)) ∧ ∃ m, w' = w.drewN m := by
  have hX : ∀ x y : Nat, bits .xor .u32 (x : Int) (y : Int) = ((wxor x y : Nat) : Int) := w_xor
  go_enter Tryd.func47, Tryd.ntmps47
  go_wp2_with fail
  refine (turn_ok x a _ hx ha.1 ha.2).mono ?_
  rintro e w1 ⟨rfl, m1, rfl⟩
  go_wp2_with fail
  refine (turn_ok x b _ hx hb.1 hb.2).mono ?_
  rintro e w2 ⟨rfl, m2, rfl⟩
  go_wp2_with fail
  refine (turn_ok x c _ hx hc.1 hc.2).mono ?_
  rintro e w3 ⟨rfl, m3, rfl⟩
  go_wp2_with fail
  go_ret
  exact ⟨rfl, _, rfl⟩

theorem rsmall_ok (x a b c : Nat) (w : World) (hx : x < 4294967296) (ha : 1 ≤ a ∧ a ≤ 31) (hb : 1 ≤ b ∧ b ≤ 31) (hc : 1 ≤ c ∧ c ≤ 31) :
    Calls Tryd.prog 53 #[wd x, .int .i64 a, .int .i64 b, .int .i64 c] w fun e w' => e = .returned (wd (small x a b c)) ∧ ∃ m, w' = w.drewN m := by
  have hX : ∀ x y : Nat, bits .xor .u32 (x : Int) (y : Int) = ((wxor x y : Nat) : Int) := w_xor
  have hS : (x : Int) / 2 ^ c = ((wshr x c : Nat) : Int) := w_shr x c hx
  have hm : (min c 32 : Nat) = c := by omega
  go_enter Tryd.func53, Tryd.ntmps53
  go_wp2_with fail
  go_quiet (first
    | (go_at_call_of 54 (Value.int .i64 (a : Int)); exact Calls.quiet_of (turn_ok x a _ hx ha.1 ha.2))
    | (go_at_call_of 54 (Value.int .i64 (b : Int)); exact Calls.quiet_of (turn_ok x b _ hx hb.1 hb.2)))
  go_wp2_with fail
  go_ret
  exact ⟨rfl, _, rfl⟩
end Go.Proofs.YtoekdiefbpnekaaDoor
