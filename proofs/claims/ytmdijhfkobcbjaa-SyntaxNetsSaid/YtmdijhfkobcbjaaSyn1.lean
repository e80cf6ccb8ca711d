/- syntax: first, right, In, upTo: their contracts. -/
import Derived.Test.YtmdijhfkobcbjaaSynM
import Derived.Test.YtmdijhfkobcbjaaRegion
import Derived.Test.YtmdijhfkobcbjaaParse
import Derived.BigQuiet
import Derived.Deep.QuietTactic
import Derived.Deep.RegionHeld3
namespace Go.Proofs.Ytmdijhfkobcbjaa
set_option linter.unusedVariables false
set_option linter.unusedSimpArgs false
open Go.RowKit

theorem firstN_le (bits a : Nat) : firstN bits a ≤ a := Nat.div_mul_le_self _ _
theorem first_cast (bits a : Nat) (ha : a < 4294967296) : (a : Int) / 2 ^ (32 - bits) * 2 ^ (32 - bits) % 4294967296 = (firstN bits a : Int) := by
  have h := firstN_le bits a
  have e : (a : Int) / 2 ^ (32 - bits) * 2 ^ (32 - bits) = ((firstN bits a : Nat) : Int) := by simp [firstN]
  rw [e]; omega

set_option maxHeartbeats 400000 in
theorem first_ok (bits a : Nat) (w : World) (hb : bits ≤ 32) (ha : a < 4294967296) :
    Calls Try.prog 34 #[.int .i64 bits, .int .u32 a] w fun e w' => e = .returned (.int .u32 (firstN bits a)) ∧ w = w' := by
  go_enter Try.func34, Try.ntmps34
  go_wp2
  rw [first_cast bits a ha]
  go_ret
  exact ⟨rfl, rfl⟩
theorem first_q (bits a : Nat) (w : World) (hb : bits ≤ 32) (ha : a < 4294967296) :
    Calls Try.prog 34 #[.int .i64 bits, .int .u32 a] w fun e w' => e = .returned (.int .u32 (firstN bits a)) ∧ ∃ m, w' = w.drewN m :=
  (first_ok bits a w hb ha).mono fun e w' ⟨h1, h2⟩ => ⟨h1, 0, h2.symm⟩

set_option maxHeartbeats 400000 in
theorem upTo_ok (top : Nat) (s : ByteArray) (w : World) (ht : top ≤ 255) (hl : s.size ≤ 140737488355328) :
    Calls Try.prog 25 #[.int .i64 top, .string s] w fun e w' => e = .returned (.tuple #[.int .i64 ((upToO top s).getD 0), .bool (upToO top s).isSome]) ∧ Below w.heap.size w w' := by
  have hp := parse_ok s w hl
  cases hr : parseS s with
  | none =>
    have hu : upToO top s = none := by simp [upToO, hr]
    rw [hr] at hp
    rw [hu]
    clear hu hr
    go_enter Try.func25, Try.ntmps25
    go_wp2_with fail
    refine hp.mono ?_
    rintro e w1 ⟨rfl, hb1⟩
    clear hp
    simp only [parE]
    go_wp2
    go_ret2
    exact ⟨rfl, hb1⟩
  | some x =>
    obtain ⟨n, k⟩ := x
    rw [hr] at hp
    have hn := (parse_is s n k hr).1
    by_cases hle : n ≤ top
    · have hu : upToO top s = some n := by simp [upToO, hr, hle]
      rw [hu]
      clear hu hr
      go_enter Try.func25, Try.ntmps25
      go_wp2_with fail
      refine hp.mono ?_
      rintro e w1 ⟨rfl, hb1⟩
      clear hp
      simp only [parE]
      go_wp2
      go_ret2
      exact ⟨rfl, hb1⟩
    · have hu : upToO top s = none := by simp [upToO, hr, hle]
      rw [hu]
      clear hu hr
      go_enter Try.func25, Try.ntmps25
      go_wp2_with fail
      refine hp.mono ?_
      rintro e w1 ⟨rfl, hb1⟩
      clear hp
      simp only [parE]
      go_wp2
      go_ret2
      exact ⟨rfl, hb1⟩

theorem cast_eq (x y : Nat) : ((x : Int) == (y : Int)) = decide (x = y) := by
  by_cases h : x = y
  · subst h; simp
  · rw [decide_eq_false h, beq_eq_false_iff_ne]; omega

set_option maxHeartbeats 1000000 in
theorem right_ok (a : Nat) (bits : Int) (w : World) (ha : a < 4294967296) :
    Calls Try.prog 28 #[.agg #[.int .u32 a, .int .i64 bits]] w fun e w' => e = .returned (.bool (rightB a bits)) ∧ Below w.heap.size w w' := by
  have hbel : ∀ n, Below w.heap.size w ((w.alloc (.cells #[.int .u32 a, .int .i64 bits] 24)).drewN n) := fun n => below_drewN ((Below.refl _ _).alloc (Nat.le_refl _) _) n
  have HB := Lib.hid hbel
  clear hbel
  by_cases h0 : 0 ≤ bits
  · by_cases h1 : bits ≤ 32
    · obtain ⟨b, rfl⟩ := Int.eq_ofNat_of_zero_le h0
      have hb : b ≤ 32 := by omega
      have hr : rightB a b = decide (firstN b a = a) := by
        have e1 : decide ((0 : Int) ≤ (b : Int)) = true := by simp
        have e2 : decide ((b : Int) ≤ 32) = true := by simp; omega
        unfold rightB
        rw [e1, e2]; simp
      rw [hr]
      clear hr h0
      have hd1 : decide ((0 : Int) ≤ (b : Int)) = true := by simp
      have hd2 : decide ((b : Int) ≤ 32) = true := by simp; omega
      have HE := Lib.hid (cast_eq (firstN b a) a)
      go_enter Try.func28, Try.ntmps28
      go_wp2
      go_quiet (((go_at_call 34; with_reducible exact Calls.quiet_of (first_q b a _ hb ha))))
      go_wp2
      go_ret
      exact ⟨by rw [← HE.out]; rfl, HB.out _⟩
    · have hr : rightB a bits = false := by simp [rightB, h1]
      rw [hr]
      clear hr
      have hd1 : decide ((0 : Int) ≤ bits) = true := by simpa using h0
      have hd2 : decide (bits ≤ 32) = false := by simpa using h1
      go_enter Try.func28, Try.ntmps28
      go_wp2
      go_quiet (fail)
      go_wp2
      go_ret
      exact ⟨rfl, HB.out _⟩
  · have hr : rightB a bits = false := by simp [rightB, h0]
    rw [hr]
    clear hr
    have hd1 : decide ((0 : Int) ≤ bits) = false := by simpa using h0
    go_enter Try.func28, Try.ntmps28
    go_wp2
    go_quiet (fail)
    go_wp2
    go_ret
    exact ⟨rfl, HB.out _⟩
end Go.Proofs.Ytmdijhfkobcbjaa
