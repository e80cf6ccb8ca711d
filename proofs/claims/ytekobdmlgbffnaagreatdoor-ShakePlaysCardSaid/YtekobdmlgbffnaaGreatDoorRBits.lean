/- Words turned: the document's own turn, great, small. -/
import Derived.Test.YtekobdmlgbffnaaGreatDoorG6
namespace Go.Proofs.YtekobdmlgbffnaaGreatDoor
set_option linter.unusedVariables false
set_option maxRecDepth 100000
set_option linter.unusedSimpArgs false
open Go.RowKit

/-! The document's own. -/
theorem turn_ok (x n : Nat) (w : World) (hx : x < 4294967296) (h1 : 1 ≤ n) (h2 : n ≤ 31) :
    Calls Tryz.prog 176 #[wd x, .int .i64 n] w fun e w' => e = .returned (wd (rotr x n)) ∧ ∃ m, w' = w.drewN m := by
  obtain ⟨m, hm⟩ : ∃ m, n + m = 32 := ⟨32 - n, by omega⟩
  have hw2 : wrap64 (32 - (n : Int)) = (m : Int) := by unfold wrap64; omega
  have hw : IntKind.i64.wrap (32 - (n : Int)) = (m : Int) := by rw [IntKind.wrap_i64]; omega
  have e1 : (min n 32 : Nat) = n := by omega
  have e2 : (min m 32 : Nat) = m := by omega
  have e3 : (x : Int) * 2 ^ m % 4294967296 = ((wshl x m : Nat) : Int) := v_shl x m
  have e4 : (x : Int) / 2 ^ n = ((wshr x n : Nat) : Int) := w_shr x n hx
  have hO : ∀ x y : Nat, bits .or .u32 (x : Int) (y : Int) = ((wor x y : Nat) : Int) := w_or
  go_enter Tryz.func176, Tryz.ntmps176
  go_wp2_with fail
  go_quiet (fail)
  go_wp2_with fail
  go_ret
  have e5 : m = 32 - n := by omega
  rw [rotr, ← e5]
  exact ⟨rfl, _, rfl⟩

theorem rgreat_ok (x a b c : Nat) (w : World) (hx : x < 4294967296) (ha : 1 ≤ a ∧ a ≤ 31) (hb : 1 ≤ b ∧ b ≤ 31) (hc : 1 ≤ c ∧ c ≤ 31) :
    Calls Tryz.prog 173 #[wd x, .int .i64 a, .int .i64 b, .int .i64 c] w fun e w' => e = .returned (wd (great x a b c)) ∧ ∃ m, w' = w.drewN m := by
  have hX : ∀ x y : Nat, bits .xor .u32 (x : Int) (y : Int) = ((wxor x y : Nat) : Int) := w_xor
  go_enter Tryz.func173, Tryz.ntmps173
  go_wp2_with fail
  refine (turn_ok x a _ hx ha.1 ha.2).mono ?_
  rintro e w1 ⟨rfl, m1, rfl⟩
  go_wp2_with fail
  refine (turn_ok x b _ hx hb.1 hb.2).mono ?_
  rintro e w2 ⟨rfl, m2, rfl⟩
  go_wp2_with fail
  refine (turn_ok x c _ hx hc.1 hc.2).mono ?_
  rintro e w3 ⟨rfl, m3, rfl⟩
  go_wp2_with fail
  go_ret
  exact ⟨rfl, _, rfl⟩

theorem rsmall_ok (x a b c : Nat) (w : World) (hx : x < 4294967296) (ha : 1 ≤ a ∧ a ≤ 31) (hb : 1 ≤ b ∧ b ≤ 31) (hc : 1 ≤ c ∧ c ≤ 31) :
    Calls Tryz.prog 175 #[wd x, .int .i64 a, .int .i64 b, .int .i64 c] w fun e w' => e = .returned (wd (small x a b c)) ∧ ∃ m, w' = w.drewN m := by
  have hX : ∀ x y : Nat, bits .xor .u32 (x : Int) (y : Int) = ((wxor x y : Nat) : Int) := w_xor
  have hS : (x : Int) / 2 ^ c = ((wshr x c : Nat) : Int) := w_shr x c hx
  have hm : (min c 32 : Nat) = c := by omega
  go_enter Tryz.func175, Tryz.ntmps175
  go_wp2_with fail
  go_quiet (first
    | (go_at_call_of 176 (Value.int .i64 (a : Int)); exact Calls.quiet_of (turn_ok x a _ hx ha.1 ha.2))
    | (go_at_call_of 176 (Value.int .i64 (b : Int)); exact Calls.quiet_of (turn_ok x b _ hx hb.1 hb.2)))
  go_wp2_with fail
  go_ret
  exact ⟨rfl, _, rfl⟩
end Go.Proofs.YtekobdmlgbffnaaGreatDoor
