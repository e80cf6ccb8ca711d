/- What pump's laws share: Great, head. (Begun in round 16, ahead of the landing.) -/
import Derived.Test.YtpomeimjgbblmaaPuL
import Derived.Test.YtpomeimjgbblmaaPuIn
import Derived.Test.YtpomeimjgbblmaaRgHead
import Derived.Test.YtpomeimjgbblmaaRgOps
import Derived.BigRegion
import Derived.Deep.RegionLaw
import Derived.Deep.Cut
import Derived.BigQuiet
namespace Go.Proofs.Ytpomeimjgbblmaa
set_option linter.unusedVariables false
set_option maxRecDepth 100000
set_option linter.unusedSimpArgs false
open Go.RowKit

set_option maxRecDepth 100000 in
set_option maxHeartbeats 8000000 in
theorem pugreat_ok (A : Option Addr) (L : List OpP) (n c : Nat) (W w : World) (h : InP W A L n c) (hb : Below W.heap.size W w) :
    Calls Try.prog 13 #[.slice A n c] w fun e w' => GrB n e ∧ w' = w := by
  have HI := Lib.hid h
  have HB := Lib.hid hb
  have hn : n ≤ 9223372036854775807 := by have h1 := h.cap; have h2 := h.max; unfold maxLen at h2; omega
  clear h hb
  go_enter Try.func13, Try.ntmps13
  go_wp2_with fail
  go_loopw [3, 4] (fun v3 v4 wr => ∃ i k : Nat, i ≤ n ∧ v3 = .int .i64 (k : Int) ∧ v4 = .int .i64 (i : Int) ∧ k ≤ n + 60000 ∧ wr = w) (fun _ v4 _ => n - (intOf v4).toNat)
  case atStart => exact ⟨0, n, by omega, rfl, rfl, by omega, rfl⟩
  case round =>
    obtain ⟨i, k, hi, rfl, rfl, hk, rfl⟩ := hrel
    by_cases hi1 : i < n
    · have hi2 : (i : Int) < (n : Int) := by omega
      by_cases hk1 : k < 30000
      · have hk2 : (k : Int) < 30000 := by omega
        obtain ⟨b, o, m, rfl, _, hc⟩ := HI.out.at_ i hi1
        obtain ⟨⟨c0, c1, c2, c3⟩, ho⟩ := hc _ HB.out
        obtain ⟨lm, hlm⟩ : ∃ lm, m.l.length = lm := ⟨_, rfl⟩
        rw [hlm] at c2
        obtain ⟨q, hq⟩ : ∃ q, min lm 30000 = q := ⟨_, rfl⟩
        have HQ := Lib.hid (show min (lm : Int) 30000 = (q : Int) by omega)
        have hq2 : q ≤ 30000 := by omega
        clear hk hlm hq ho hc
        go_wp2_with (refine wpList_min rfl (.tmp 23) (.const (.int .i64 30000)) 3 rfl _ _ _ rfl rfl HQ.out ?_)
        go_roundw
        case rel => exact ⟨i + 1, k + q, by omega, by go_num, by go_num, by omega, by trivial⟩
        case measure => simp [intOf]; omega
      · have hk2 : ¬ (k : Int) < 30000 := by omega
        have hk3 : (30000 : Int) ≤ (k : Int) := by omega
        go_wp2_with fail
        go_ret
        exact ⟨⟨true, rfl, fun h => by cases h⟩, rfl⟩
    · have hi2 : ¬ (i : Int) < (n : Int) := by omega
      by_cases hk1 : k < 30000
      · have hk2 : ¬ (30000 : Int) ≤ (k : Int) := by omega
        go_wp2_with fail
        go_ret
        refine ⟨⟨_, rfl, fun h => ?_⟩, rfl⟩
        simp at h
        omega
      · have hk3 : (30000 : Int) ≤ (k : Int) := by omega
        go_wp2_with fail
        go_ret
        exact ⟨⟨true, rfl, fun h => by cases h⟩, rfl⟩
theorem gu_in2 {m : Nat} {p p2 : Pu} {s : Int} {B : List UInt8} {r : Nat} (h : Gu m p) (e : inP m p s B = (r, p2)) : Gu m p2 := by have := gu_in h s B; rw [e] at this; exact this
theorem gu_end2 {m : Nat} {p p2 : Pu} {s : Int} {r : Bool} (h : Gu m p) (e : endP p s = (r, p2)) : Gu m p2 := by have := gu_end h s; rw [e] at this; exact this
theorem gu_out2 {m : Nat} {p p2 : Pu} {s n : Int} {r : List UInt8 × Bool} (h : Gu m p) (e : outP p s n = (r, p2)) : Gu m p2 := by have := gu_out h s n; rw [e] at this; exact this
abbrev hU1 : Pu := ⟨⟨[97, 98, 99], false, false, 0⟩, wy0, false⟩
abbrev hU2 : Pu := ⟨⟨[97, 98, 99], true, false, 0⟩, wy0, false⟩
abbrev hU3 : Pu := ⟨⟨[99], true, false, 2⟩, wy0, false⟩
abbrev hU4 : Pu := ⟨⟨[], true, true, 3⟩, wy0, false⟩
abbrev hU5 : Pu := ⟨⟨[], true, true, 3⟩, ⟨[113], false, false, 0⟩, false⟩
abbrev hU6 : Pu := ⟨⟨[], true, true, 3⟩, ⟨[], false, false, 1⟩, false⟩
theorem hu1 : inP 3 pu0 0 [97, 98, 99, 100] = (3, hU1) := by rfl
theorem hu2 : endP hU1 0 = (true, hU2) := by rfl
theorem hu3 : inP 3 hU2 0 [120] = (0, hU2) := by rfl
theorem hu4 : outP hU2 1 2 = (([97, 98], false), hU3) := by rfl
theorem hu5 : outP hU3 1 9 = (([99], true), hU4) := by rfl
theorem hu6 : outP hU4 1 9 = (([], false), hU4) := by rfl
theorem hu7 : inP 3 hU4 1 [113] = (1, hU5) := by rfl
theorem hu8 : outP hU5 0 1 = (([113], false), hU6) := by rfl
theorem gU1 : Gu 3 hU1 := gu_in2 (gu_new 3) hu1
theorem gU2 : Gu 3 hU2 := gu_end2 gU1 hu2
theorem gU3 : Gu 3 hU3 := gu_out2 gU2 hu4
theorem gU4 : Gu 3 hU4 := gu_out2 gU3 hu5
theorem gU5 : Gu 3 hU5 := gu_in2 gU4 hu7
theorem gU6 : Gu 3 hU6 := gu_out2 gU5 hu8
theorem fu_of {a b : Wy} {br : Bool} (ha : 0 ≤ a.mv ∧ a.mv ≤ 1099511627776) (hb : 0 ≤ b.mv ∧ b.mv ≤ 1099511627776) : Fu ⟨a, b, br⟩ := ⟨ha, hb⟩
set_option maxRecDepth 100000 in
set_option maxHeartbeats 16000000 in
theorem puhead_ok (w : World) : Calls Try.prog 10 #[] w fun e w' => e = .returned (.bool true) ∧ Below w.heap.size w w' := by
  have e1 : (#[.int .u8 97, .int .u8 98, .int .u8 99, .int .u8 100] : Array Value) = bcells [97, 98, 99, 100] := rfl
  have e2 : (#[.int .u8 120] : Array Value) = bcells [120] := rfl
  have e3 : (#[.int .u8 113] : Array Value) = bcells [113] := rfl
  have E1 := Lib.hid e1
  have E2 := Lib.hid e2
  have E3 := Lib.hid e3
  have Q1 : ((bs [97, 98]).toList == [97, 98]) = true := by rw [bs_list]; rfl
  have Q2 : ((bs [99]).toList == [99]) = true := by rw [bs_list]; rfl
  have Q3 : ((bs [113]).toList == [113]) = true := by rw [bs_list]; rfl
  have kc := fun (w : World) (C : Array Value) (n c : Nat) => Lib.run_convert_bytes_const (P := Try.prog) w 29 5 C n c Try.underlying29 Try.underlying5
  clear e1 e2 e3
  go_enter Try.func10, Try.ntmps10
  go_upto_region 2 with (go_at_call 11; (with_reducible refine (y_new (W := w) 3 3 rfl (Below.refl _ _)).mono ?_); rintro e u1 ⟨H1, pb, rfl, h1, -, -⟩; have HZ1 := Lib.hid h1; clear h1)
  go_upto_region 5 with (go_at_call 20; rw [E1.out]; (with_reducible refine (y_in (HZ1.out.on ((Below.refl _ _).alloc (Nat.le_refl _) _)) (gu_new 3) (by decide) 0 _ 4 4 [97, 98, 99, 100] rfl (Nat.le_refl _) (by decide) (fun h => by cases h) (lit_pu HZ1.out.hi) 3 hU1 hu1).mono ?_); rintro e u2 ⟨H2, rfl, h1, -⟩; have HZ2 := Lib.hid h1; clear h1)
  go_upto_region 6 with (go_at_call 16; (with_reducible refine (y_end HZ2.out 0 true hU2 hu2).mono ?_); rintro e u3 ⟨H3, rfl, h1, -⟩; have HZ3 := Lib.hid h1; clear h1)
  go_upto_region 7 with (go_at_call 20; rw [E2.out]; (with_reducible refine (y_in (HZ3.out.on ((Below.refl _ _).alloc (Nat.le_refl _) _)) gU2 (by decide) 0 _ 1 1 [120] rfl (Nat.le_refl _) (by decide) (fun h => by cases h) (lit_pu HZ3.out.hi) 0 hU2 hu3).mono ?_); rintro e u4 ⟨H4, rfl, h1, -⟩; have HZ4 := Lib.hid h1; clear h1)
  go_upto_region 8 with (go_at_call 14; (with_reducible refine (y_out HZ4.out gU2 (by decide) (fu_of (by decide) (by decide)) 1 2 2 [97, 98] false hU3 hu4 rfl).mono ?_); rintro e u5 ⟨H5, A5, c5, rfl, h0, h1, h2⟩; have HZ5 := Lib.hid h1; have HX5 := Lib.hid (h0.rf (G := H5) (fun y hy => .inl hy)); clear h0 h1 h2)
  go_upto_region 9 with (go_at_call 14; (with_reducible refine (y_out HZ5.out gU3 (by decide) (fu_of (by decide) (by decide)) 1 9 1 [99] true hU4 hu5 rfl).mono ?_); rintro e u6 ⟨H6, A6, c6, rfl, h0, h1, h2⟩; have HZ6 := Lib.hid h1; have HX6 := Lib.hid (HX5.out.step h2); have HY6 := Lib.hid (h0.rf (G := H6) (fun y hy => .inl hy)); clear h0 h1 h2)
  go_upto_region 10 with (go_at_call 14; (with_reducible refine (y_out HZ6.out gU4 (by decide) (fu_of (by decide) (by decide)) 1 9 0 [] false hU4 hu6 rfl).mono ?_); rintro e u7 ⟨H7, A7, c7, rfl, h0, h1, h2⟩; have HZ7 := Lib.hid h1; have HX7 := Lib.hid (HX6.out.step h2); have HY7 := Lib.hid (HY6.out.step h2); clear h0 h1 h2)
  go_upto_region 11 with (go_at_call 20; rw [E3.out]; (with_reducible refine (y_in (HZ7.out.on ((Below.refl _ _).alloc (Nat.le_refl _) _)) gU4 (by decide) 1 _ 1 1 [113] rfl (Nat.le_refl _) (by decide) (fun h => by cases h) (lit_pu HZ7.out.hi) 1 hU5 hu7).mono ?_); rintro e u8 ⟨H8, rfl, h1, h2⟩; have HZ8 := Lib.hid h1; have HX8 := Lib.hid ((HX7.out.on ((Below.refl _ _).alloc (Nat.le_refl _) _)).step h2); have HY8 := Lib.hid ((HY7.out.on ((Below.refl _ _).alloc (Nat.le_refl _) _)).step h2); clear h1 h2)
  go_wp2_with (first
    | (go_at_call 14; (with_reducible refine (y_out HZ8.out gU5 (by decide) (fu_of (by decide) (by decide)) 0 1 1 [113] false hU6 hu8 rfl).mono ?_); rintro e u9 ⟨H9, A9, c9, rfl, h0, h1, h2⟩; have HZ9 := Lib.hid h1; have HX9 := Lib.hid (HX8.out.step h2); have HY9 := Lib.hid (HY8.out.step h2); have HV9 := Lib.hid (h0.rf (G := H9) (fun y hy => .inl hy)); clear h0 h1 h2; have q5 := str_of (P := Try.prog) HX9.out.rb 29 5 9 Try.underlying29 Try.underlying5 Try.underlying9 2 c5 rfl; have q6 := str_of (P := Try.prog) HY9.out.rb 29 5 9 Try.underlying29 Try.underlying5 Try.underlying9 1 c6 rfl; have q9 := str_of (P := Try.prog) HV9.out.rb 29 5 9 Try.underlying29 Try.underlying5 Try.underlying9 1 c9 rfl)
    | (go_at_call 28; (with_reducible refine (y_over HZ9.out false rfl).mono ?_); rintro e v1 ⟨rfl, h1⟩; have HZa := Lib.hid (HZ9.out.on h1); clear h1)
    | (go_at_call 26; (with_reducible refine (y_moved HZa.out 1 3 rfl).mono ?_); rintro e v2 ⟨rfl, h1⟩; have HZb := Lib.hid (HZa.out.on h1); clear h1)
    | (go_at_call 22; (with_reducible refine (y_waits HZb.out gU6 (by decide) 0 0 rfl).mono ?_); rintro e v3 ⟨rfl, h1⟩; have HZc := Lib.hid (HZb.out.on h1); clear h1)
    | (go_at_call 24; (with_reducible refine (y_room HZc.out gU6 (by decide) 1 3 rfl).mono ?_); rintro e v4 ⟨rfl, h1⟩; have HZd := Lib.hid (HZc.out.on h1); clear h1)
    | (go_at_call 24; (with_reducible refine (y_room HZd.out gU6 (by decide) 0 0 rfl).mono ?_); rintro e v5 ⟨rfl, h1⟩; have HZe := Lib.hid (HZd.out.on h1); clear h1))
  go_ret
  exact ⟨rfl, HZe.out.l⟩
end Go.Proofs.Ytpomeimjgbblmaa
