/- The head of gate's laws: its live question is always answered yes. (Written by gen_gth.py.) -/
import Derived.Test.YtcplebbaiambgaaG7
namespace Go.Proofs.Ytcplebbaiambgaa
set_option linter.unusedVariables false
set_option maxRecDepth 100000
set_option linter.unusedSimpArgs false
open Go.RowKit

def gAnn : ByteArray := ⟨#[97, 110, 110]⟩
def gBob : ByteArray := ⟨#[98, 111, 98]⟩
def gN1 : Nt := ⟨167772160, 8⟩
def gT1 : Tn := ⟨gAnn, 0, 1, [gN1], []⟩
def gV1 (d : Nat) : Tv := ⟨gT1, some ⟨d, 0, none⟩, 1, none, 0⟩
def gC1 (b d : Nat) : Cv := ⟨9, 9, 9, 9, [gV1 d], some ⟨b, 0, none⟩, 1⟩
def gF : Option Tn := gtF [gT1] gAnn
def gU1 : Us := tkU gF U0 gAnn 2
def gU2 : Us := tkU gF gU1 gAnn 2
def gU3 : Us := tkU gF gU2 gAnn 1
def gU4 : Us := gvU gU3 gAnn 2
def gU5 : Us := gvU gU4 gAnn 2
def gU6 : Us := tkU gF gU5 gAnn 3
theorem gone_right (b d : Nat) : cfgB (gC1 b d).cg = true := by
  show cfgB ⟨9, 9, 9, 9, [gT1]⟩ = true
  kernel_rfl
theorem gk1 : tkI gF (U0 gAnn 2) 2 = 0 := by kernel_rfl
theorem gk2 : tkI gF (gU1 gAnn 2) 2 = 112 := by kernel_rfl
theorem gk3 : tkI gF (gU2 gAnn 1) 1 = 112 := by kernel_rfl
theorem gk4 : gvB gU3 gAnn 2 = true := by kernel_rfl
theorem gk5 : gvB gU4 gAnn 2 = false := by kernel_rfl
theorem gk6 : gU5 gAnn 2 = 0 := by kernel_rfl
theorem gk7 : tkI gF (gU5 gAnn 3) 3 = 1 := by kernel_rfl
theorem gk8 : adI gF 167838211 = 0 := by kernel_rfl
theorem gk9 : adI gF 184615427 = 111 := by kernel_rfl
theorem gk0 : adI (gtF [gT1] gBob) 0 = 3 := by kernel_rfl
theorem gnew_zero (w : World) : Calls Try.prog 12 #[.agg #[.int .i64 0, .int .i64 0, .int .i64 0, .int .i64 0, .slice none 0 0]] w fun e u' => e = .returned (.pointer none) ∧ Below w.heap.size w u' := by
  have h := gnew_no (x := ⟨0, 0, 0, 0, [], none, 0⟩) (w := w) ⟨⟨.inl rfl, fun x hx => by cases hx⟩, ⟨Nat.le_refl _, (show (0 : Nat) ≤ 9223372036854775807 by decide), fun _ => ⟨rfl, rfl⟩⟩⟩ (by kernel_rfl) w (Below.refl _ _)
  exact h
set_option maxRecDepth 100000 in
set_option maxHeartbeats 4000000 in
theorem ghead_ok (w : World) : Calls Try.prog 9 #[] w fun e w' => e = .returned (.bool true) ∧ Below w.heap.size w w' := by
  have H0 := Lib.hid (show Bk (((w.alloc (.cells #[.int .u32 167772160, .int .i64 8] 51)).alloc (.cells #[.string ⟨#[97, 110, 110]⟩, .int .i64 0, .int .i64 1, .slice (some ⟨w.heap.size, 0, none⟩) 1 1, .slice none 0 0] 45)).alloc (.cells #[.int .i64 9, .int .i64 9, .int .i64 9, .int .i64 9, .slice (some ⟨w.heap.size + 1, 0, none⟩) 1 1] 24)) w.heap.size 51 #[.int .u32 167772160, .int .i64 8] from ((Bk.new w _ _).alloc _).alloc _)
  have H1 := Lib.hid (show Bk (((w.alloc (.cells #[.int .u32 167772160, .int .i64 8] 51)).alloc (.cells #[.string ⟨#[97, 110, 110]⟩, .int .i64 0, .int .i64 1, .slice (some ⟨w.heap.size, 0, none⟩) 1 1, .slice none 0 0] 45)).alloc (.cells #[.int .i64 9, .int .i64 9, .int .i64 9, .int .i64 9, .slice (some ⟨w.heap.size + 1, 0, none⟩) 1 1] 24)) (w.heap.size + 1) 45 #[.string ⟨#[97, 110, 110]⟩, .int .i64 0, .int .i64 1, .slice (some ⟨w.heap.size, 0, none⟩) 1 1, .slice none 0 0] by have := (Bk.new (w.alloc (.cells #[.int .u32 167772160, .int .i64 8] 51)) 45 #[.string ⟨#[97, 110, 110]⟩, .int .i64 0, .int .i64 1, .slice (some ⟨w.heap.size, 0, none⟩) 1 1, .slice none 0 0]).alloc (.cells #[.int .i64 9, .int .i64 9, .int .i64 9, .int .i64 9, .slice (some ⟨w.heap.size + 1, 0, none⟩) 1 1] 24); rwa [World.size_alloc] at this)
  have H2 := Lib.hid (show Bk (((w.alloc (.cells #[.int .u32 167772160, .int .i64 8] 51)).alloc (.cells #[.string ⟨#[97, 110, 110]⟩, .int .i64 0, .int .i64 1, .slice (some ⟨w.heap.size, 0, none⟩) 1 1, .slice none 0 0] 45)).alloc (.cells #[.int .i64 9, .int .i64 9, .int .i64 9, .int .i64 9, .slice (some ⟨w.heap.size + 1, 0, none⟩) 1 1] 24)) (w.heap.size + 2) 24 #[.int .i64 9, .int .i64 9, .int .i64 9, .int .i64 9, .slice (some ⟨w.heap.size + 1, 0, none⟩) 1 1] by have := Bk.new ((w.alloc (.cells #[.int .u32 167772160, .int .i64 8] 51)).alloc (.cells #[.string ⟨#[97, 110, 110]⟩, .int .i64 0, .int .i64 1, .slice (some ⟨w.heap.size, 0, none⟩) 1 1, .slice none 0 0] 45)) 24 #[.int .i64 9, .int .i64 9, .int .i64 9, .int .i64 9, .slice (some ⟨w.heap.size + 1, 0, none⟩) 1 1]; rwa [World.size_alloc, World.size_alloc] at this)
  have HL := Lib.hid (show Below w.heap.size w (((w.alloc (.cells #[.int .u32 167772160, .int .i64 8] 51)).alloc (.cells #[.string ⟨#[97, 110, 110]⟩, .int .i64 0, .int .i64 1, .slice (some ⟨w.heap.size, 0, none⟩) 1 1, .slice none 0 0] 45)).alloc (.cells #[.int .i64 9, .int .i64 9, .int .i64 9, .int .i64 9, .slice (some ⟨w.heap.size + 1, 0, none⟩) 1 1] 24)) from (((Below.refl w.heap.size w).alloc (Nat.le_refl _) _).alloc (by rw [World.size_alloc]; omega) _).alloc (by rw [World.size_alloc, World.size_alloc]; omega) _)
  obtain ⟨w3, hw3⟩ : ∃ w3, (((w.alloc (.cells #[.int .u32 167772160, .int .i64 8] 51)).alloc (.cells #[.string ⟨#[97, 110, 110]⟩, .int .i64 0, .int .i64 1, .slice (some ⟨w.heap.size, 0, none⟩) 1 1, .slice none 0 0] 45)).alloc (.cells #[.int .i64 9, .int .i64 9, .int .i64 9, .int .i64 9, .slice (some ⟨w.heap.size + 1, 0, none⟩) 1 1] 24)) = w3 := ⟨_, rfl⟩
  rw [hw3] at H0 H1 H2 HL
  have HRC := Lib.hid (show RC w3 (gC1 (w.heap.size + 1) w.heap.size) from ⟨⟨Rw.bk H1.out, fun x hx => by
    obtain rfl := List.mem_singleton.1 hx
    exact ⟨Rw.bk H0.out, .inl rfl, ⟨Nat.le_refl _, (show (1 : Nat) ≤ 9223372036854775807 by decide), fun h => by cases h⟩, ⟨Nat.le_refl _, (show (0 : Nat) ≤ 9223372036854775807 by decide), fun _ => ⟨rfl, rfl⟩⟩, (fun n hn => by obtain rfl := List.mem_singleton.1 hn; decide), (show gAnn.size ≤ 140737488355328 by decide), fun k hk => by cases hk⟩⟩, ⟨Nat.le_refl _, (show (1 : Nat) ≤ 9223372036854775807 by decide), fun h => by cases h⟩⟩)
  have HLG := Lib.hid (show Lg w3 [gT1] [] [] w3 from ⟨(fun G hG => by cases hG), .nil, (fun b hb => by cases hb), Below.refl _ _⟩)
  have HN1 := Lib.hid (show ∀ u, Lg w3 [gT1] [] [] u → Calls Try.prog 12 #[.agg #[.int .i64 9, .int .i64 9, .int .i64 9, .int .i64 9, .slice (some ⟨w.heap.size + 1, 0, none⟩) 1 1]] u fun e u' => ∃ g mb lo hi gs, e = .returned (.pointer (some ⟨g, 0, none⟩)) ∧ Lg w3 [gT1] [⟨g, mb, lo, hi, gs, U0⟩] [] u' from fun u hu => gnew_yes HRC.out (gone_right _ _) u [] [] hu)
  have HK3 := Lib.hid (show ∀ u g mb lo hi gs, Lg w3 [gT1] [⟨g, mb, lo, hi, gs, U0⟩] [] u → Calls Try.prog 18 #[.pointer (some ⟨g, 0, none⟩), .string ⟨#[97, 110, 110]⟩, .int .i64 2] u fun e u' => e = .returned (.int .i64 0) ∧ Lg w3 [gT1] [⟨g, mb, lo, hi, gs, gU1⟩] [] u' from fun u g mb lo hi gs h => (lg_take h gAnn 2 (by decide)).mono fun e u' hh => ⟨hh.1.trans (congrArg (fun n => Ending.returned (.int .i64 n)) gk1), hh.2⟩)
  have HK4 := Lib.hid (show ∀ u g mb lo hi gs, Lg w3 [gT1] [⟨g, mb, lo, hi, gs, gU1⟩] [] u → Calls Try.prog 18 #[.pointer (some ⟨g, 0, none⟩), .string ⟨#[97, 110, 110]⟩, .int .i64 2] u fun e u' => e = .returned (.int .i64 112) ∧ Lg w3 [gT1] [⟨g, mb, lo, hi, gs, gU2⟩] [] u' from fun u g mb lo hi gs h => (lg_take h gAnn 2 (by decide)).mono fun e u' hh => ⟨hh.1.trans (congrArg (fun n => Ending.returned (.int .i64 n)) gk2), hh.2⟩)
  have HK5 := Lib.hid (show ∀ u g mb lo hi gs, Lg w3 [gT1] [⟨g, mb, lo, hi, gs, gU2⟩] [] u → Calls Try.prog 18 #[.pointer (some ⟨g, 0, none⟩), .string ⟨#[97, 110, 110]⟩, .int .i64 1] u fun e u' => e = .returned (.int .i64 112) ∧ Lg w3 [gT1] [⟨g, mb, lo, hi, gs, gU3⟩] [] u' from fun u g mb lo hi gs h => (lg_take h gAnn 1 (by decide)).mono fun e u' hh => ⟨hh.1.trans (congrArg (fun n => Ending.returned (.int .i64 n)) gk3), hh.2⟩)
  have HK6 := Lib.hid (show ∀ u g mb lo hi gs, Lg w3 [gT1] [⟨g, mb, lo, hi, gs, gU3⟩] [] u → Calls Try.prog 14 #[.pointer (some ⟨g, 0, none⟩), .string ⟨#[97, 110, 110]⟩, .int .i64 2] u fun e u' => e = .returned (.bool true) ∧ Lg w3 [gT1] [⟨g, mb, lo, hi, gs, gU4⟩] [] u' from fun u g mb lo hi gs h => (lg_give h gAnn 2 (by decide)).mono fun e u' hh => ⟨hh.1.trans (congrArg (fun n => Ending.returned (.bool n)) gk4), hh.2⟩)
  have HK7 := Lib.hid (show ∀ u g mb lo hi gs, Lg w3 [gT1] [⟨g, mb, lo, hi, gs, gU4⟩] [] u → Calls Try.prog 14 #[.pointer (some ⟨g, 0, none⟩), .string ⟨#[97, 110, 110]⟩, .int .i64 2] u fun e u' => e = .returned (.bool false) ∧ Lg w3 [gT1] [⟨g, mb, lo, hi, gs, gU5⟩] [] u' from fun u g mb lo hi gs h => (lg_give h gAnn 2 (by decide)).mono fun e u' hh => ⟨hh.1.trans (congrArg (fun n => Ending.returned (.bool n)) gk5), hh.2⟩)
  have HK8 := Lib.hid (show ∀ u g mb lo hi gs, Lg w3 [gT1] [⟨g, mb, lo, hi, gs, gU5⟩] [] u → Calls Try.prog 16 #[.pointer (some ⟨g, 0, none⟩), .string ⟨#[97, 110, 110]⟩, .int .u32 167838211] u fun e u' => e = .returned (.int .i64 0) ∧ Lg w3 [gT1] [⟨g, mb, lo, hi, gs, gU5⟩] [] u' from fun u g mb lo hi gs h => (lg_admit h gAnn 167838211 (by decide) (by decide)).mono fun e u' hh => ⟨hh.1.trans (congrArg (fun n => Ending.returned (.int .i64 n)) gk8), hh.2⟩)
  have HK9 := Lib.hid (show ∀ u g mb lo hi gs, Lg w3 [gT1] [⟨g, mb, lo, hi, gs, gU5⟩] [] u → Calls Try.prog 16 #[.pointer (some ⟨g, 0, none⟩), .string ⟨#[97, 110, 110]⟩, .int .u32 184615427] u fun e u' => e = .returned (.int .i64 111) ∧ Lg w3 [gT1] [⟨g, mb, lo, hi, gs, gU5⟩] [] u' from fun u g mb lo hi gs h => (lg_admit h gAnn 184615427 (by decide) (by decide)).mono fun e u' hh => ⟨hh.1.trans (congrArg (fun n => Ending.returned (.int .i64 n)) gk9), hh.2⟩)
  have HK10 := Lib.hid (show ∀ u g mb lo hi gs, Lg w3 [gT1] [⟨g, mb, lo, hi, gs, gU5⟩] [] u → Calls Try.prog 16 #[.pointer (some ⟨g, 0, none⟩), .string ⟨#[98, 111, 98]⟩, .int .u32 0] u fun e u' => e = .returned (.int .i64 3) ∧ Lg w3 [gT1] [⟨g, mb, lo, hi, gs, gU5⟩] [] u' from fun u g mb lo hi gs h => (lg_admit h gBob 0 (by decide) (by decide)).mono fun e u' hh => ⟨hh.1.trans (congrArg (fun n => Ending.returned (.int .i64 n)) gk0), hh.2⟩)
  have HK11 := Lib.hid (show ∀ u g mb lo hi gs, Lg w3 [gT1] [⟨g, mb, lo, hi, gs, gU5⟩] [] u → Calls Try.prog 20 #[.pointer (some ⟨g, 0, none⟩), .string ⟨#[97, 110, 110]⟩, .int .i64 2] u fun e u' => e = .returned (.int .i64 0) ∧ Lg w3 [gT1] [⟨g, mb, lo, hi, gs, gU5⟩] [] u' from fun u g mb lo hi gs h => (lg_used h gAnn 2 (by decide)).mono fun e u' hh => ⟨hh.1.trans (congrArg (fun n : Nat => Ending.returned (.int .i64 (n : Int))) gk6), hh.2⟩)
  have HK12 := Lib.hid (show ∀ u g mb lo hi gs, Lg w3 [gT1] [⟨g, mb, lo, hi, gs, gU5⟩] [] u → Calls Try.prog 18 #[.pointer (some ⟨g, 0, none⟩), .string ⟨#[97, 110, 110]⟩, .int .i64 3] u fun e u' => e = .returned (.int .i64 1) ∧ Lg w3 [gT1] [⟨g, mb, lo, hi, gs, gU6⟩] [] u' from fun u g mb lo hi gs h => (lg_take h gAnn 3 (by decide)).mono fun e u' hh => ⟨hh.1.trans (congrArg (fun n => Ending.returned (.int .i64 n)) gk7), hh.2⟩)
  have z0 : w3.cell? ⟨w.heap.size + 1 + 1, 0, none⟩ = some (.int .i64 9) := H2.out.cell 0
  have z1 : w3.cell? ⟨w.heap.size + 1 + 1, 1, none⟩ = some (.int .i64 9) := H2.out.cell 1
  have z2 : w3.cell? ⟨w.heap.size + 1 + 1, 2, none⟩ = some (.int .i64 9) := H2.out.cell 2
  have z3 : w3.cell? ⟨w.heap.size + 1 + 1, 3, none⟩ = some (.int .i64 9) := H2.out.cell 3
  have z4 : w3.cell? ⟨w.heap.size + 1 + 1, 4, none⟩ = some (.slice (some ⟨w.heap.size + 1, 0, none⟩) 1 1) := H2.out.cell 4
  clear H0 H1 H2 HRC
  go_enter Try.func9, Try.ntmps9
  go_upto_region 2 with fail
  try rw [hw3]
  clear hw3
  go_wp2_with (first
    | (go_at_call 12; (with_reducible refine (HN1.out _ HLG.out).mono ?_); rintro e u1 ⟨g, mb, lo, hi, gs, rfl, hv⟩; have HV1 := Lib.hid hv; clear hv)
    | (go_at_call 12; (with_reducible refine (gnew_zero _).mono ?_); rintro e u2 ⟨rfl, hb⟩; have HV2 := Lib.hid (HV1.out.on hb); clear hb)
    | (go_at_call 18; (with_reducible refine (HK3.out _ g mb lo hi gs HV2.out).mono ?_); rintro e u3 ⟨rfl, hv⟩; have HV3 := Lib.hid hv; clear hv)
    | (go_at_call 18; (with_reducible refine (HK4.out _ g mb lo hi gs HV3.out).mono ?_); rintro e u4 ⟨rfl, hv⟩; have HV4 := Lib.hid hv; clear hv)
    | (go_at_call 18; (with_reducible refine (HK5.out _ g mb lo hi gs HV4.out).mono ?_); rintro e u5 ⟨rfl, hv⟩; have HV5 := Lib.hid hv; clear hv)
    | (go_at_call 14; (with_reducible refine (HK6.out _ g mb lo hi gs HV5.out).mono ?_); rintro e u6 ⟨rfl, hv⟩; have HV6 := Lib.hid hv; clear hv)
    | (go_at_call 14; (with_reducible refine (HK7.out _ g mb lo hi gs HV6.out).mono ?_); rintro e u7 ⟨rfl, hv⟩; have HV7 := Lib.hid hv; clear hv)
    | (go_at_call 16; (with_reducible refine (HK8.out _ g mb lo hi gs HV7.out).mono ?_); rintro e u8 ⟨rfl, hv⟩; have HV8 := Lib.hid hv; clear hv)
    | (go_at_call 16; (with_reducible refine (HK9.out _ g mb lo hi gs HV8.out).mono ?_); rintro e u9 ⟨rfl, hv⟩; have HV9 := Lib.hid hv; clear hv)
    | (go_at_call 16; (with_reducible refine (HK10.out _ g mb lo hi gs HV9.out).mono ?_); rintro e u10 ⟨rfl, hv⟩; have HV10 := Lib.hid hv; clear hv)
    | (go_at_call 20; (with_reducible refine (HK11.out _ g mb lo hi gs HV10.out).mono ?_); rintro e u11 ⟨rfl, hv⟩; have HV11 := Lib.hid hv; clear hv)
    | (go_at_call 18; (with_reducible refine (HK12.out _ g mb lo hi gs HV11.out).mono ?_); rintro e u12 ⟨rfl, hv⟩; have HV12 := Lib.hid hv; clear hv))
  go_ret
  exact ⟨by first | rfl | simp, HL.out.trans (HV12.out.l.mono HL.out.size)⟩
end Go.Proofs.Ytcplebbaiambgaa
