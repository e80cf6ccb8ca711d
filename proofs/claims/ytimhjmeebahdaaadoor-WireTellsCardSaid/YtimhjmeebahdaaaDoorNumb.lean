/- num.number over whatever tells its digits. -/
import Derived.Test.YtimhjmeebahdaaaDoorRows
import Derived.Test.YtimhjmeebahdaaaDoorHmf
namespace Go.Proofs.YtimhjmeebahdaaaDoor
set_option linter.unusedVariables false
set_option linter.unusedSimpArgs false
open Go.RowKit

/-- What number reckons of digits that are told: of each the digit, whether it is the last one, whether it is one at all. -/
def numS (b : Nat) (st : Nat → Nat × Bool × Bool) : Nat → Nat → Nat → Option (Nat × Nat)
  | 0, _, _ => none
  | f + 1, k, n =>
    let d := st k
    if d.2.2 = false then none
    else if 1099511627776 < n * b + d.1 ∨ (n * b + d.1 = 0 ∧ d.2.1 = false) then none
    else if d.2.1 = true then some (n * b + d.1, k + 1)
    else numS b st f (k + 1) (n * b + d.1)

/-- How number returns it. -/
def numE : Option (Nat × Nat) → Ending
  | some (n, k) => .returned (.tuple #[.int .i64 n, .int .i64 k, .bool true])
  | none => .returned (.tuple #[.int .i64 0, .int .i64 0, .bool false])

/-- A call of a function with a body goes into it. -/
theorem goes_in {P : Program} {f : FuncId} {fn : Func} {c : Code} (h1 : P.funcs[f]? = some fn) (h2 : (fn.name == "runtime.NumGoroutine") = false) (h3 : fn.body = some c) (args : Array Value) (w : World) :
    (callFunc f args).run P w = .ok (.enter f args) w := by
  have hn : fn.name ≠ "runtime.NumGoroutine" := by simpa using h2
  simp [callFunc, h1, hn, h3, mark]

set_option maxHeartbeats 1000000 in
theorem number_ok (b : Nat) (F : Nat) (cap : Array Value) (B len : Nat) (Inv : Nat → World → Prop) (st : Nat → Nat × Bool × Bool) (hb : 1 ≤ b) (hb2 : b ≤ 128)
    (hst : ∀ k, (st k).2.2 = true → k < len ∧ (st k).1 < 256) (hlen : len ≤ 140737488355328)
    (hin : ∀ w, (callFunc F cap).run Tryd.prog w = .ok (.enter F cap) w)
    (hstep : ∀ k w, k ≤ len → Inv k w → Calls Tryd.prog F cap w fun e w' => ∃ di lb, e = .returned (.tuple #[.int .i64 di, .bool lb, .bool (st k).2.2]) ∧ ((st k).2.2 = true → di = ((st k).1 : Int) ∧ lb = (st k).2.1 ∧ Inv (k + 1) w') ∧ Below B w w')
    (w : World) (h0 : Inv 0 w) :
    Calls Tryd.prog 38 #[.int .i64 b, .func (.func F) #[] cap] w fun e w' => e = numE (numS b st (len + 1) 0 0) ∧ Below B w w' := by
  have HST := Lib.hid hstep
  have HS2 := Lib.hid hst
  clear hstep hst
  obtain ⟨R, hR⟩ : ∃ R, numS b st (len + 1) 0 0 = R := ⟨_, rfl⟩
  rw [hR]
  have HR := Lib.hid hR
  clear hR
  go_enter Tryd.func38, Tryd.ntmps38
  go_wp2_with fail
  go_loopw [7, 8] (fun v7 v8 wr => ∃ n k : Nat, v7 = .int .i64 n ∧ v8 = .int .i64 ((k : Int) + 1) ∧ n ≤ 1099511627776 ∧ k ≤ len ∧ Hid (Inv k wr) ∧ Below B w wr ∧ Hid (numS b st (len + 1 - k) k n = R)) (fun _ v8 _ => len + 1 - (intOf v8).toNat)
  case atStart => exact ⟨0, 0, rfl, rfl, by omega, by omega, Lib.hid h0, Below.refl _ _, HR⟩
  case round =>
    obtain ⟨n, k, rfl, rfl, hn, hk, HI, hbel, HE⟩ := hrel
    have hcall := HST.out k wr hk HI.out
    have hs2 := HS2.out k
    obtain ⟨f, hf0⟩ : ∃ f, f = len - k := ⟨_, rfl⟩
    have hf : len + 1 - k = f + 1 := by omega
    have HF := Lib.hid hf0
    have hE := HE.out
    rw [hf, numS] at hE
    obtain ⟨d, last, is, hd⟩ : ∃ d last is, st k = (d, last, is) := ⟨_, _, _, rfl⟩
    rw [hd] at hcall hE hs2
    simp only [] at hcall hE hs2
    have hmul : ((n : Int) * (b : Int)) = ((n * b : Nat) : Int) := by simp
    have m1 : (0 : Int) ≤ (n : Int) * (b : Int) := by rw [hmul]; omega
    have m0 : n * b ≤ 1099511627776 * 128 := Nat.mul_le_mul hn hb2
    have m2 : (n : Int) * (b : Int) ≤ 140737488355328 := by rw [hmul]; omega
    have HC := Lib.hid hcall
    have HE2 := Lib.hid hE
    have HS3 := Lib.hid hs2
    have HM := Lib.hid hmul
    clear hcall hE hs2 hmul HST HS2 HE HR hd HI hf hf0 h0
    by_cases his : is = true
    · subst his
      obtain ⟨hkl, hdl⟩ := HS3.out rfl
      clear HS3
      replace HC := Lib.hid (HC.out.mono (R' := fun e w' => e = .returned (.tuple #[.int .i64 (d : Int), .bool last, .bool true]) ∧ Inv (k + 1) w' ∧ Below B wr w') (fun e w' ⟨di, lb, he, hI, hB⟩ => by
        obtain ⟨rfl, rfl, hI2⟩ := hI rfl
        exact ⟨he, hI2, hB⟩))
      have HM' := HM.out
      clear HM
      by_cases hbig : (1099511627776 : Int) < (n : Int) * (b : Int) + (d : Int)
      · have hR : R = none := by
          have := HE2.out
          rw [if_neg (by simp), if_pos (.inl (by omega))] at this
          exact this.symm
        clear HE2 HM'
        go_wp2_with (refine HC.out.mono ?_; rintro e w1 ⟨rfl, hI, hB⟩)
        go_ret3
        exact ⟨by rw [hR]; rfl, hbel.trans hB⟩
      · by_cases hz : (n : Int) * (b : Int) + (d : Int) = 0 ∧ last = false
        · obtain ⟨hz, rfl⟩ := hz
          have hR : R = none := by
            have := HE2.out
            rw [if_neg (by simp), if_pos (.inr ⟨by omega, rfl⟩)] at this
            exact this.symm
          have hz2 : (((n : Int) * (b : Int) + (d : Int)) == 0) = true := by simp [hz]
          clear HE2 HM' hz
          go_wp2_with (refine HC.out.mono ?_; rintro e w1 ⟨rfl, hI, hB⟩)
          go_ret3
          exact ⟨by rw [hR]; rfl, hbel.trans hB⟩
        · cases last with
          | true =>
            have hR : R = some (n * b + d, k + 1) := by
              have := HE2.out
              rw [if_neg (by simp), if_neg (by rintro (h | ⟨h, h'⟩) <;> first | omega | cases h'), if_pos rfl] at this
              exact this.symm
            have hz2 : Hid ((n : Int) * (b : Int) + (d : Int) = ((n * b + d : Nat) : Int)) := Lib.hid (by simp)
            clear HE2 HM' hz
            by_cases hzz : (((n : Int) * (b : Int) + (d : Int)) == 0) = true
            · go_wp2_with (refine HC.out.mono ?_; rintro e w1 ⟨rfl, hI, hB⟩)
              go_ret3
              exact ⟨by rw [hR, numE, ← hz2.out]; rfl, hbel.trans hB⟩
            · have hzz : (((n : Int) * (b : Int) + (d : Int)) == 0) = false := by simpa using hzz
              go_wp2_with (refine HC.out.mono ?_; rintro e w1 ⟨rfl, hI, hB⟩)
              go_ret3
              exact ⟨by rw [hR, numE, ← hz2.out]; rfl, hbel.trans hB⟩
          | false =>
            have hE3 := HE2.out
            rw [if_neg (by simp), if_neg (by rintro (h | ⟨h, h'⟩) <;> first | omega | exact hz ⟨by omega, rfl⟩), if_neg (by simp)] at hE3
            have HE3 := Lib.hid hE3
            have hz2 : (((n : Int) * (b : Int) + (d : Int)) == 0) = false := by
              have : ¬ ((n : Int) * (b : Int) + (d : Int) = 0) := fun h => hz ⟨h, rfl⟩
              simpa using this
            have hz3 : Hid ((n : Int) * (b : Int) + (d : Int) = ((n * b + d : Nat) : Int)) := Lib.hid (by simp)
            clear HE2 HM' hz hE3
            go_wp2_with (refine HC.out.mono ?_; rintro e w1 ⟨rfl, hI, hB⟩)
            go_roundw
            case rel => exact ⟨n * b + d, k + 1, by rw [hz3.out], by go_num, by have := hz3.out; omega, by omega, Lib.hid hI, hbel.trans hB, Lib.hid (by rw [← HE3.out]; congr 1; have := HF.out; omega)⟩
            case measure => simp [intOf]; omega
    · have his : is = false := by simpa using his
      subst his
      have hR := HE2.out
      rw [if_pos rfl] at hR
      have hR := hR.symm
      clear HE2 HS3 HM
      go_wp2_with (refine HC.out.mono ?_; rintro e w1 ⟨di, lb, rfl, hI, hB⟩)
      go_ret3
      exact ⟨by rw [hR]; rfl, hbel.trans hB⟩
end Go.Proofs.YtimhjmeebahdaaaDoor
