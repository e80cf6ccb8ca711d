/- What conn's laws share: Great, head, does. (Written by gen_cnh.py.) -/
import Derived.Test.YtndamiocmdnenaaGreatG7
import Derived.BigRegion
import Derived.Deep.RegionLaw
import Derived.Deep.Cut
namespace Go.Proofs.YtndamiocmdnenaaGreat
set_option linter.unusedVariables false
set_option maxRecDepth 100000
set_option linter.unusedSimpArgs false
open Go.RowKit

/-- A yes or a no; at a no there are few calls. -/
def GrC (n : Nat) (e : Ending) : Prop := ∃ v : Bool, e = .returned (.bool v) ∧ (v = false → n ≤ 400)
set_option maxRecDepth 100000 in
set_option maxHeartbeats 8000000 in
theorem cngreat_ok (A : Option Addr) (L : List OpC) (n c : Nat) (W w : World) (h : InCn W A L n c) (hb : Below W.heap.size W w) :
    Calls Tryz.prog 7 #[.slice A n c] w fun e w' => GrC n e ∧ w' = w := by
  have HI := Lib.hid h
  have HB := Lib.hid hb
  have hn : n ≤ 9223372036854775807 := by have h1 := h.cap; have h2 := h.max; unfold maxLen at h2; omega
  clear h hb
  go_enter Tryz.func7, Tryz.ntmps7
  go_wp2_with fail
  go_loopw [3, 4] (fun v3 v4 wr => ∃ i k : Nat, i ≤ n ∧ v3 = .int .i64 (k : Int) ∧ v4 = .int .i64 (i : Int) ∧ k ≤ n + 80000 ∧ wr = w) (fun _ v4 _ => n - (intOf v4).toNat)
  case atStart => exact ⟨0, n, by omega, rfl, rfl, by omega, rfl⟩
  case round =>
    obtain ⟨i, k, hi, rfl, rfl, hk, rfl⟩ := hrel
    by_cases hi1 : i < n
    · have hi2 : (i : Int) < (n : Int) := by omega
      by_cases hk1 : k < 40000
      · have hk2 : (k : Int) < 40000 := by omega
        obtain ⟨b, o, m, rfl, _, _, hc⟩ := HI.out.at_ i hi1
        obtain ⟨⟨c0, c1, c2, c3⟩, ho⟩ := hc _ HB.out
        obtain ⟨lm, hlm⟩ : ∃ lm, m.l.length = lm := ⟨_, rfl⟩
        rw [hlm] at c3
        obtain ⟨q, hq⟩ : ∃ q, min lm 40000 = q := ⟨_, rfl⟩
        have HQ := Lib.hid (show min (lm : Int) 40000 = (q : Int) by omega)
        have hq2 : q ≤ 40000 := by omega
        clear hk hlm hq ho hc
        go_wp2_with (refine wpList_min rfl (.tmp 23) (.const (.int .i64 40000)) 3 rfl _ _ _ rfl rfl HQ.out ?_)
        go_roundw
        case rel => exact ⟨i + 1, k + q, by omega, by go_num, by go_num, by omega, by trivial⟩
        case measure => simp [intOf]; omega
      · have hk2 : ¬ (k : Int) < 40000 := by omega
        have hk3 : (40000 : Int) ≤ (k : Int) := by omega
        go_wp2_with fail
        go_ret
        exact ⟨⟨true, rfl, fun h => by cases h⟩, rfl⟩
    · have hi2 : ¬ (i : Int) < (n : Int) := by omega
      by_cases hk1 : k < 40000
      · have hk2 : ¬ (40000 : Int) ≤ (k : Int) := by omega
        go_wp2_with fail
        go_ret
        refine ⟨⟨_, rfl, fun h => ?_⟩, rfl⟩
        simp at h
        omega
      · have hk3 : (40000 : Int) ≤ (k : Int) := by omega
        go_wp2_with fail
        go_ret
        exact ⟨⟨true, rfl, fun h => by cases h⟩, rfl⟩

/-- A call, as does has it. -/
def doC (t : Tc) (o : OpC) : Tc :=
  if o.what = 0 then (opC t (o.x % 4294967296)).2 else if o.what = 1 then (clC t o.id).2 else if o.what = 2 then (feC t o.id o.l).2 else if o.what = 3 then (feC t o.id o.l).2 else if o.what = 4 then (neC t o.id).2 else if o.what = 5 then (reC t o.id o.x).2
  else if o.what = 6 then (saC t o.id o.l).2 else if o.what = 7 then (saC t o.id o.l).2 else if o.what = 8 then (buC t o.id o.x).2 else if o.what = 9 then (flC t o.id).2 else (haC t o.id).2
theorem gc_do {t : Tc} (h : Gc t) (o : OpC) : Gc (doC t o) := by
  unfold doC
  repeat' split
  · exact gc_open h _
  · exact gc_close h _
  · exact gc_feed h _ _
  · exact gc_feed h _ _
  · exact gc_next h _
  · exact gc_rest h _ _
  · exact gc_say h _ _
  · exact gc_say h _ _
  · exact gc_bud h _ _
  · exact gc_flush h _
  · exact gc_half h _
theorem la_up {t : Tc} {i : Int} {c : Cn} : (t.up i c).la = t.la := rfl
theorem la_feed {t : Tc} {i : Int} {B : List UInt8} : (feC t i B).2.la = t.la := by unfold feC; split; rfl; split <;> rfl
theorem la_next {t : Tc} {i : Int} : (neC t i).2.la = t.la := by unfold neC; split; rfl; split; rfl; split <;> rfl
theorem la_rest {t : Tc} {i n : Int} : (reC t i n).2.la = t.la := by unfold reC; split <;> rfl
theorem la_say {t : Tc} {i : Int} {B : List UInt8} : (saC t i B).2.la = t.la := by unfold saC; split; rfl; split <;> rfl
theorem la_bud {t : Tc} {i n : Int} : (buC t i n).2.la = t.la := by unfold buC; split; rfl; split <;> rfl
theorem la_flush {t : Tc} {i : Int} : (flC t i).2.la = t.la := by unfold flC; split <;> rfl
theorem la_half {t : Tc} {i : Int} : (haC t i).2.la = t.la := by unfold haC; split; rfl; split <;> rfl
theorem la_close {t : Tc} {i : Int} : (clC t i).2.la = t.la := by unfold clC; split <;> rfl
theorem la_open {t : Tc} {a : Int} : (opC t a).2.la ≤ t.la + 1 := by unfold opC; split; exact Nat.le_succ _; exact Nat.le_refl _
theorem la_do (t : Tc) (o : OpC) : (doC t o).la ≤ t.la + 1 := by
  unfold doC
  repeat' split
  · exact la_open
  · rw [la_close]; omega
  · rw [la_feed]; omega
  · rw [la_feed]; omega
  · rw [la_next]; omega
  · rw [la_rest]; omega
  · rw [la_say]; omega
  · rw [la_say]; omega
  · rw [la_bud]; omega
  · rw [la_flush]; omega
  · rw [la_half]; omega
section
variable {W u u' : World} {H H' : List Nat} {tb : Nat} {t : Tc}
end
def hC0 : Cn := ⟨5, [], [], 0, false⟩
def hD0 : Cn := ⟨6, [], [], 0, false⟩
def hT1 : Tc := ⟨[(1, ⟨5, [], [], 0, false⟩)], 1⟩
def hT2 : Tc := ⟨[(1, ⟨5, [], [], 0, false⟩), (2, ⟨6, [], [], 0, false⟩)], 2⟩
def hT3 : Tc := ⟨[(1, ⟨5, [170, 1, 7, 8], [], 0, false⟩), (2, ⟨6, [], [], 0, false⟩)], 2⟩
def hT4 : Tc := ⟨[(1, ⟨5, [8], [], 0, false⟩), (2, ⟨6, [], [], 0, false⟩)], 2⟩
def hT5 : Tc := ⟨[(1, ⟨5, [8], [], 0, false⟩), (2, ⟨6, [], [97, 98, 99], 0, false⟩)], 2⟩
def hT6 : Tc := ⟨[(1, ⟨5, [8], [], 0, false⟩), (2, ⟨6, [], [97, 98, 99], 2, false⟩)], 2⟩
def hT7 : Tc := ⟨[(1, ⟨5, [8], [], 0, false⟩), (2, ⟨6, [], [99], 0, false⟩)], 2⟩
def hT8 : Tc := ⟨[(2, ⟨6, [], [99], 0, false⟩)], 2⟩
def hT9 : Tc := ⟨[(2, ⟨6, [], [99], 0, false⟩), (3, ⟨9, [], [], 0, false⟩)], 3⟩
def hTa : Tc := ⟨[(2, ⟨6, [], [99], 0, true⟩), (3, ⟨9, [], [], 0, false⟩)], 3⟩
theorem hc1 : opC tc0 5 = ((1, 0), hT1) := by rfl
theorem hc2 : opC hT1 6 = ((2, 0), hT2) := by rfl
theorem hc3 : feC hT2 1 [170, 1, 7, 8] = (4, hT3) := by rfl
theorem hc4 : neC hT3 1 = (([7], true, 0), hT4) := by rfl
theorem hc5 : neC hT4 1 = (([], false, 61), hT4) := by rfl
theorem hc6 : saC hT4 2 [97, 98, 99] = (true, hT5) := by rfl
theorem hc7 : buC hT5 2 2 = (true, hT6) := by rfl
theorem hc8 : flC hT6 2 = ([97, 98], hT7) := by rfl
theorem hc9 : flC hT7 2 = ([], hT7) := by rfl
theorem hca : clC hT7 1 = (true, hT8) := by rfl
theorem hcb : opC hT8 9 = ((3, 0), hT9) := by rfl
theorem hcd : haC hT9 2 = (true, hTa) := by rfl
theorem hce : enC hTa 2 = true := by rfl
theorem hcf : feC hTa 2 [120] = (0, hTa) := by rfl
theorem hcg : adC hTa 3 = 9 := by rfl
theorem hch : hsC hTa 1 = false := by rfl
theorem hci : alC hTa = [2, 3] := by rfl
theorem gT1 : Gc hT1 := by have := gc_open gc_new 5; rw [hc1] at this; exact this
theorem gT2 : Gc hT2 := by have := gc_open gT1 6; rw [hc2] at this; exact this
theorem gT3 : Gc hT3 := by have := gc_feed gT2 1 [170, 1, 7, 8]; rw [hc3] at this; exact this
theorem gT4 : Gc hT4 := by have := gc_next gT3 1; rw [hc4] at this; exact this
theorem gT5 : Gc hT5 := by have := gc_say gT4 2 [97, 98, 99]; rw [hc6] at this; exact this
theorem gT6 : Gc hT6 := by have := gc_bud gT5 2 2; rw [hc7] at this; exact this
theorem gT7 : Gc hT7 := by have := gc_flush gT6 2; rw [hc8] at this; exact this
theorem gT8 : Gc hT8 := by have := gc_close gT7 1; rw [hca] at this; exact this
theorem gT9 : Gc hT9 := by have := gc_open gT8 9; rw [hcb] at this; exact this
theorem gTa : Gc hTa := by have := gc_half gT9 2; rw [hcd] at this; exact this
set_option maxRecDepth 100000 in
set_option maxHeartbeats 16000000 in
theorem cnhead_ok (w : World) : Calls Tryz.prog 4 #[] w fun e w' => e = .returned (.bool true) ∧ Below w.heap.size w w' := by
  have e1 : (#[.int .u8 170, .int .u8 1, .int .u8 7, .int .u8 8] : Array Value) = bcells [170, 1, 7, 8] := rfl
  have e2 : (#[.int .u8 97, .int .u8 98, .int .u8 99] : Array Value) = bcells [97, 98, 99] := rfl
  have e3 : (#[.int .u8 120] : Array Value) = bcells [120] := rfl
  have e4 : (#[.int .i64 2, .int .i64 3] : Array Value) = (i64s [2, 3]).toArray := rfl
  have E1 := Lib.hid e1
  have E2 := Lib.hid e2
  have E3 := Lib.hid e3
  have E4 := Lib.hid e4
  have Q1 : ((bs [97, 98]).toList == [97, 98]) = true := by rw [bs_list]; rfl
  have kc := fun (w : World) (C : Array Value) (n c : Nat) => Lib.run_convert_bytes_const (P := Tryz.prog) w 30 5 C n c Tryz.underlying30 Tryz.underlying5
  clear e1 e2 e3 e4
  go_enter Tryz.func4, Tryz.ntmps4
  go_upto_region 2 with (go_at_call 5; (with_reducible refine (c_new (W := w) (Below.refl _ _)).mono ?_); rintro e u1 ⟨H1, tb, rfl, h1, -, -⟩; have HZ1 := Lib.hid h1; clear h1)
  go_upto_region 5 with (go_at_call 13; (with_reducible refine (c_open HZ1.out gc_new (by decide) 5 1 0 hT1 hc1).mono ?_); rintro e u2 ⟨H2, rfl, h1, -⟩; have HZ2 := Lib.hid h1; clear h1)
  go_upto_region 6 with (go_at_call 13; (with_reducible refine (c_open HZ2.out gT1 (by decide) 6 2 0 hT2 hc2).mono ?_); rintro e u3 ⟨H3, rfl, h1, -⟩; have HZ3 := Lib.hid h1; clear h1)
  go_upto_region 7 with (go_at_call 14; rw [E1.out]; (with_reducible refine (c_feed (HZ3.out.on ((Below.refl _ _).alloc (Nat.le_refl _) _)) gT2 1 _ 4 4 [170, 1, 7, 8] rfl (Nat.le_refl _) (by decide) (lit_pu HZ3.out.hi) 4 hT3 hc3).mono ?_); rintro e u4 ⟨rfl, h1, -⟩; have HZ4 := Lib.hid h1; clear h1)
  go_upto_region 8 with (go_at_call 15; (with_reducible refine (c_next HZ4.out gT3 1 1 [7] true 0 hT4 hc4 rfl).mono ?_); rintro e u5 ⟨A5, c5, rfl, h0, h1, h2⟩; have HZ5 := Lib.hid h1; have HX5 := Lib.hid (h0.rf (G := H3) (fun y hy => .inr (HZ4.out.hi y hy))); clear h0 h1 h2)
  go_upto_region 9 with (go_at_call 15; (with_reducible refine (c_next HZ5.out gT4 1 0 [] false 61 hT4 hc5 rfl).mono ?_); rintro e u6 ⟨A6, c6, rfl, h0, h1, h2⟩; have HZ6 := Lib.hid h1; have HX6 := Lib.hid (HX5.out.step h2); clear h0 h1 h2)
  go_upto_region 10 with (go_at_call 16; rw [E2.out]; (with_reducible refine (c_say (HZ6.out.on ((Below.refl _ _).alloc (Nat.le_refl _) _)) gT4 2 _ 3 3 [97, 98, 99] rfl (Nat.le_refl _) (by decide) (lit_pu HZ6.out.hi) true hT5 hc6).mono ?_); rintro e u7 ⟨rfl, h1, h2⟩; have HZ7 := Lib.hid h1; have HX7 := Lib.hid ((HX6.out.on ((Below.refl _ _).alloc (Nat.le_refl _) _)).step h2); clear h1 h2)
  go_upto_region 11 with (go_at_call 17; (with_reducible refine (c_budget HZ7.out gT5 2 2 true hT6 hc7).mono ?_); rintro e u8 ⟨rfl, h1, h2⟩; have HZ8 := Lib.hid h1; have HX8 := Lib.hid (HX7.out.step h2); clear h1 h2)
  go_upto_region 12 with (go_at_call 18; (with_reducible refine (c_flush HZ8.out gT6 2 2 [97, 98] hT7 hc8 rfl).mono ?_); rintro e u9 ⟨A9, c9, rfl, h0, h1, h2⟩; have HZ9 := Lib.hid h1; have HX9 := Lib.hid (HX8.out.step h2); have HY9 := Lib.hid (h0.rf (G := H3) (fun y hy => .inr (HZ8.out.hi y hy))); clear h0 h1 h2)
  go_upto_region 13 with (go_at_call 18; (with_reducible refine (c_flush HZ9.out gT7 2 0 [] hT7 hc9 rfl).mono ?_); rintro e ua ⟨Aa, ca, rfl, h0, h1, h2⟩; have HZa := Lib.hid h1; have HXa := Lib.hid (HX9.out.step h2); have HYa := Lib.hid (HY9.out.step h2); clear h0 h1 h2)
  go_upto_region 14 with (go_at_call 19; (with_reducible refine (c_close HZa.out gT7 1 true hT8 hca).mono ?_); rintro e ub ⟨rfl, h1, h2⟩; have HZb := Lib.hid h1; have HXb := Lib.hid (HXa.out.step h2); have HYb := Lib.hid (HYa.out.step h2); clear h1 h2)
  go_upto_region 15 with (go_at_call 13; (with_reducible refine (c_open HZb.out gT8 (by decide) 9 3 0 hT9 hcb).mono ?_); rintro e uc ⟨Hc, rfl, h1, h2⟩; have HZc := Lib.hid h1; have HXc := Lib.hid (HXb.out.step h2); have HYc := Lib.hid (HYb.out.step h2); clear h1 h2)
  obtain ⟨gb, go, hA5⟩ : ∃ gb go, A5 = some ⟨gb, go, none⟩ := by
    rcases HX5.out with h0 | ⟨b, o, e, -⟩
    · cases h0
    · exact ⟨b, o, e⟩
  subst hA5
  go_wp2_with (first
    | (go_at_call 20; (with_reducible refine (c_half HZc.out gT9 2 true hTa hcd).mono ?_); rintro e ud ⟨rfl, h1, h2⟩; have HZd := Lib.hid h1; have HXd := Lib.hid (HXc.out.step h2); have HYd := Lib.hid (HYc.out.step h2); clear h1 h2; have x0 : ud.cell? ⟨gb, go, none⟩ = some (.int .u8 7) := (by rcases HXd.out with h0 | ⟨b, o, e, -, -, h5⟩; cases h0; injection e with e; injection e with e6 e7; subst e6; subst e7; have := h5 0 (by simp); rw [Nat.add_zero] at this; exact this); have q5 := str_of (P := Tryz.prog) HYd.out.rb 30 5 9 Tryz.underlying30 Tryz.underlying5 Tryz.underlying9 2 c9 rfl)
    | (go_at_call 21; (with_reducible refine (c_ended HZd.out 2 true hce).mono ?_); rintro e v1 ⟨rfl, h1⟩; have HZe := Lib.hid (HZd.out.on h1); clear h1)
    | (go_at_call 14; rw [E3.out]; (with_reducible refine (c_feed (HZe.out.on ((Below.refl _ _).alloc (Nat.le_refl _) _)) gTa 2 _ 1 1 [120] rfl (Nat.le_refl _) (by decide) (lit_pu HZe.out.hi) 0 hTa hcf).mono ?_); rintro e v2 ⟨rfl, h1, -⟩; have HZf := Lib.hid h1; clear h1)
    | (go_at_call 22; (with_reducible refine (c_addr HZf.out 3 9 hcg).mono ?_); rintro e v3 ⟨rfl, h1⟩; have HZg := Lib.hid (HZf.out.on h1); clear h1)
    | (go_at_call 23; (with_reducible refine (c_has HZg.out 1 false hch).mono ?_); rintro e v4 ⟨rfl, h1⟩; have HZh := Lib.hid (HZg.out.on h1); clear h1)
    | (go_at_call 11; (with_reducible refine (c_all HZh.out gTa 2 rfl).mono ?_); rintro e v5 ⟨Ai, ci, rfl, h0, h1⟩; have HZi := Lib.hid (HZh.out.on h1); have HOI := Lib.hid h0; clear h0 h1)
    | (go_at_call 10; rw [E4.out]; (with_reducible refine (oisame_ok Ai _ ci 2 [2, 3] [2, 3] [] [] _ 2 2 rfl rfl ((HOI.out.ri (K := []) (by simp)).step (Sp.of (((Ke.refl [] _).alloc _)))) (Ri.lit [2, 3] _ rfl (by simp)) (by decide) (by decide)).mono ?_); rintro e v6 ⟨rfl, h1⟩; have HK6 := Lib.hid h1; clear h1))
  go_ret
  exact ⟨rfl, (HZi.out.on ((Below.refl _ _).alloc (Nat.le_refl _) _)).l.trans (HK6.out.below (by have := (HZi.out.on ((Below.refl _ _).alloc (Nat.le_refl _) (.cells (i64s [2, 3]).toArray 3))).l.size; exact this) (by simp))⟩
end Go.Proofs.YtndamiocmdnenaaGreat
