/- The document's own roots, and what one block does. (Written by gen_rblock.py.) -/
import Derived.Test.YtinbegnojfpeiaaDoorRSched
import Derived.Test.YtinbegnojfpeiaaDoorG2
import Derived.StillTailTactics
import Derived.BigQuiet
import Derived.Deep.QuietTactic
import Derived.Deep.Cut
import Derived.Deep.CutRange
namespace Go.Proofs.YtinbegnojfpeiaaDoor
set_option linter.unusedVariables false
set_option maxRecDepth 100000
set_option linter.unusedSimpArgs false
open Go.RowKit

theorem kk_cells : wcells KK = #[.int .u32 1116352408, .int .u32 1899447441, .int .u32 3049323471, .int .u32 3921009573, .int .u32 961987163, .int .u32 1508970993, .int .u32 2453635748, .int .u32 2870763221, .int .u32 3624381080, .int .u32 310598401, .int .u32 607225278, .int .u32 1426881987, .int .u32 1925078388, .int .u32 2162078206, .int .u32 2614888103, .int .u32 3248222580, .int .u32 3835390401, .int .u32 4022224774, .int .u32 264347078, .int .u32 604807628, .int .u32 770255983, .int .u32 1249150122, .int .u32 1555081692, .int .u32 1996064986, .int .u32 2554220882, .int .u32 2821834349, .int .u32 2952996808, .int .u32 3210313671, .int .u32 3336571891, .int .u32 3584528711, .int .u32 113926993, .int .u32 338241895, .int .u32 666307205, .int .u32 773529912, .int .u32 1294757372, .int .u32 1396182291, .int .u32 1695183700, .int .u32 1986661051, .int .u32 2177026350, .int .u32 2456956037, .int .u32 2730485921, .int .u32 2820302411, .int .u32 3259730800, .int .u32 3345764771, .int .u32 3516065817, .int .u32 3600352804, .int .u32 4094571909, .int .u32 275423344, .int .u32 430227734, .int .u32 506948616, .int .u32 659060556, .int .u32 883997877, .int .u32 958139571, .int .u32 1322822218, .int .u32 1537002063, .int .u32 1747873779, .int .u32 1955562222, .int .u32 2024104815, .int .u32 2227730452, .int .u32 2361852424, .int .u32 2428436474, .int .u32 2756734187, .int .u32 3204031479, .int .u32 3329325298] := rfl
theorem z66 (w : World) : Bk (w.alloc (.cells #[.int .u32 0, .int .u32 0, .int .u32 0, .int .u32 0, .int .u32 0, .int .u32 0, .int .u32 0, .int .u32 0, .int .u32 0, .int .u32 0, .int .u32 0, .int .u32 0, .int .u32 0, .int .u32 0, .int .u32 0, .int .u32 0, .int .u32 0, .int .u32 0, .int .u32 0, .int .u32 0, .int .u32 0, .int .u32 0, .int .u32 0, .int .u32 0, .int .u32 0, .int .u32 0, .int .u32 0, .int .u32 0, .int .u32 0, .int .u32 0, .int .u32 0, .int .u32 0, .int .u32 0, .int .u32 0, .int .u32 0, .int .u32 0, .int .u32 0, .int .u32 0, .int .u32 0, .int .u32 0, .int .u32 0, .int .u32 0, .int .u32 0, .int .u32 0, .int .u32 0, .int .u32 0, .int .u32 0, .int .u32 0, .int .u32 0, .int .u32 0, .int .u32 0, .int .u32 0, .int .u32 0, .int .u32 0, .int .u32 0, .int .u32 0, .int .u32 0, .int .u32 0, .int .u32 0, .int .u32 0, .int .u32 0, .int .u32 0, .int .u32 0, .int .u32 0] 95)) w.heap.size 95 (wcells (List.replicate 64 0)) := Bk.new w 95 _
theorem z45 (w : World) : Bk (w.alloc (.cells #[.int .u32 0, .int .u32 0, .int .u32 0, .int .u32 0, .int .u32 0, .int .u32 0, .int .u32 0, .int .u32 0] 80)) w.heap.size 80 (wcells [0, 0, 0, 0, 0, 0, 0, 0]) := Bk.new w 80 _

set_option maxRecDepth 100000 in
set_option maxHeartbeats 1000000 in
theorem rroots_ok (w : World) : Calls Tryd.prog 54 #[] w fun e w' => e = .returned (.agg (wcells KK)) ∧ Below w.heap.size w w' := by
  have HE := Lib.hid (show (Tryd.prog.info? 95).map (·.size) = some (wcells KK).size by kernel_rfl)
  have HE2 := Lib.hid (show (wcells (List.replicate 64 0)).size = (wcells KK).size by rw [wcells_size, wcells_size]; rfl)
  have hz := z66 w
  have HZ := Lib.hid hz
  clear hz
  go_enter Tryd.func54, Tryd.ntmps54
  go_wp2_with (refine wpList_store_row rfl 95 (.tmp 0) (.tmp 1) rfl w.heap.size (wcells KK) rfl rfl 95 _ HZ.out HE.out HE2.out (wcells_one _) ?_)
  obtain ⟨w3, hw3⟩ : ∃ w3, w3 = (w.alloc (.cells #[.int .u32 0, .int .u32 0, .int .u32 0, .int .u32 0, .int .u32 0, .int .u32 0, .int .u32 0, .int .u32 0, .int .u32 0, .int .u32 0, .int .u32 0, .int .u32 0, .int .u32 0, .int .u32 0, .int .u32 0, .int .u32 0, .int .u32 0, .int .u32 0, .int .u32 0, .int .u32 0, .int .u32 0, .int .u32 0, .int .u32 0, .int .u32 0, .int .u32 0, .int .u32 0, .int .u32 0, .int .u32 0, .int .u32 0, .int .u32 0, .int .u32 0, .int .u32 0, .int .u32 0, .int .u32 0, .int .u32 0, .int .u32 0, .int .u32 0, .int .u32 0, .int .u32 0, .int .u32 0, .int .u32 0, .int .u32 0, .int .u32 0, .int .u32 0, .int .u32 0, .int .u32 0, .int .u32 0, .int .u32 0, .int .u32 0, .int .u32 0, .int .u32 0, .int .u32 0, .int .u32 0, .int .u32 0, .int .u32 0, .int .u32 0, .int .u32 0, .int .u32 0, .int .u32 0, .int .u32 0, .int .u32 0, .int .u32 0, .int .u32 0, .int .u32 0] 95)).setRow w.heap.size (wcells KK) := ⟨_, rfl⟩
  have HB3 : Bk w3 w.heap.size 95 (wcells KK) := by rw [hw3]; exact HZ.out.setRow _
  have hbel3 : Below w.heap.size w w3 := by rw [hw3]; exact Below.setRow ((Below.refl _ _).alloc (Nat.le_refl _) _) _ (Nat.le_refl _) _
  rw [← hw3]
  refine bodyPost_ret (results_cell_row rfl _ _ w.heap.size 95 _ (0, 0) _ rfl HB3 Tryd.underlying95 rfl HE.out) rfl ?_
  exact ⟨rfl, hbel3⟩

theorem gen_q {Q : Exit → Act → World → Prop} {e : Exit} {a : Act} {w : World} (S : World → Prop) (hS : S w) (h : ∀ u, S u → Q e a u) : Q e a w := h w hS
/-- What lies there through the rounds of a block. -/
structure RB (w : World) (g5 g6 g7 : Nat) (s r : St) (W : List Nat) (u : World) : Prop where
  h : Bk u w.heap.size 80 (s8 s)
  z : Bk u (w.heap.size + 1) 80 (wcells [0, 0, 0, 0, 0, 0, 0, 0])
  k : Bk u g5 95 (wcells KK)
  w_ : Bk u g6 95 (wcells W)
  s_ : Bk u g7 80 (s8 r)
  b : Below w.heap.size w u
theorem RB.drewN {w : World} {g5 g6 g7 : Nat} {s r : St} {W : List Nat} {u : World} (x : RB w g5 g6 g7 s r W u) (n : Nat) : RB w g5 g6 g7 s r W (u.drewN n) := ⟨x.h, x.z, x.k, x.w_, x.s_, Below.drewN' x.b n⟩
theorem s8_at (r : St) (u : World) (g : Nat) (h : Bk u g 80 (s8 r)) : u.cell? ⟨g, 0, none⟩ = some (.int .u32 (r.a : Int)) ∧ u.cell? ⟨g, 1, none⟩ = some (.int .u32 (r.b : Int)) ∧ u.cell? ⟨g, 2, none⟩ = some (.int .u32 (r.c : Int)) ∧ u.cell? ⟨g, 3, none⟩ = some (.int .u32 (r.d : Int)) ∧ u.cell? ⟨g, 4, none⟩ = some (.int .u32 (r.e : Int)) ∧ u.cell? ⟨g, 5, none⟩ = some (.int .u32 (r.f : Int)) ∧ u.cell? ⟨g, 6, none⟩ = some (.int .u32 (r.g : Int)) ∧ u.cell? ⟨g, 7, none⟩ = some (.int .u32 (r.h : Int)) :=
  ⟨h.cell 0, h.cell 1, h.cell 2, h.cell 3, h.cell 4, h.cell 5, h.cell 6, h.cell 7⟩
theorem rgreat_e (x : Nat) (w : World) (n : Nat) (hx : x < 4294967296) : Calls Tryd.prog 56 #[.int .u32 (x : Int), .int .i64 6, .int .i64 11, .int .i64 25] (w.drewN n) fun e w' => e = .returned (.int .u32 ((great x 6 11 25 : Nat) : Int)) ∧ ∃ m, w' = (w.drewN n).drewN m :=
  rgreat_ok x 6 11 25 _ hx (by omega) (by omega) (by omega)
theorem rgreat_a (x : Nat) (w : World) (n : Nat) (hx : x < 4294967296) : Calls Tryd.prog 56 #[.int .u32 (x : Int), .int .i64 2, .int .i64 13, .int .i64 22] (w.drewN n) fun e w' => e = .returned (.int .u32 ((great x 2 13 22 : Nat) : Int)) ∧ ∃ m, w' = (w.drewN n).drewN m :=
  rgreat_ok x 2 13 22 _ hx (by omega) (by omega) (by omega)

set_option maxRecDepth 100000 in
set_option maxHeartbeats 4000000 in
theorem rblock_ok (s : St) (b o c : Nat) (bl : List UInt8) (w : World) (hs : s.Ok) (hbl : bl.length = 64) (hb : b < w.heap.size) (hc : 64 ≤ c) (hR : Rb w w.heap.size (some ⟨b, o, none⟩) bl) :
    Calls Tryd.prog 47 #[A8 s, .slice (some ⟨b, o, none⟩) 64 c] w fun e w' => e = .returned (A8 (block1 s (sched (words16 bl 0)))) ∧ Below w.heap.size w w' := by
  have HR := Lib.hid hR
  have HBL := Lib.hid hbl
  have HBH := Lib.hid hb
  have HSO := Lib.hid hs
  obtain ⟨W, hW⟩ : ∃ W, W = sched (words16 bl 0) := ⟨_, rfl⟩
  have HW := Lib.hid hW
  have HWL := Lib.hid (show W.length = 64 by rw [hW]; exact sched_len _ (words16_len _ _))
  have HEK := Lib.hid (show (Tryd.prog.info? 95).map (·.size) = some (wcells KK).size by kernel_rfl)
  have HEK2 := Lib.hid (show (wcells (List.replicate 64 0)).size = (wcells KK).size by rw [wcells_size, wcells_size]; rfl)
  have HEW := Lib.hid (show (Tryd.prog.info? 95).map (·.size) = some (wcells W).size by rw [wcells_size, HWL.out]; kernel_rfl)
  have HEW2 := Lib.hid (show (wcells (List.replicate 64 0)).size = (wcells W).size by rw [wcells_size, wcells_size, HWL.out, List.length_replicate])
  have HE8 := Lib.hid (show ∀ r, (Tryd.prog.info? 80).map (·.size) = some (s8 r).size from fun r => by rw [s8_size]; kernel_rfl)
  rw [← hW]
  clear hR hbl hb hs hW
  go_enter Tryd.func47, Tryd.ntmps47
  go_upto_region 1 with fail
  refine gen_world (fun u => Bk u w.heap.size 80 (s8 s) ∧ Bk u (w.heap.size + 1) 80 (wcells [0, 0, 0, 0, 0, 0, 0, 0]) ∧ Below w.heap.size w u) ?_ (fun w1 hw1 => ?_)
  · have h1 : Bk (w.alloc (.cells (s8 s) 80)) w.heap.size 80 (s8 s) := Bk.new _ _ _
    refine ⟨h1.alloc _, Bk.here ?_, by go_grown⟩
    show _ = (w.heap.push _).size; rw [Array.size_push]
  have HH1 := Lib.hid hw1.1
  have HZ1 := Lib.hid hw1.2.1
  have HB1 := Lib.hid hw1.2.2
  clear hw1
  go_wp2_with fail
  refine (rroots_ok _).mono ?_
  rintro e w2 ⟨rfl, hb2⟩
  have HH2 := Lib.hid (HH1.out.below hb2 HH1.out.lt)
  have HZ2 := Lib.hid (HZ1.out.below hb2 HZ1.out.lt)
  have HB2 := Lib.hid (HB1.out.trans (hb2.mono HB1.out.size))
  clear hb2 HH1 HZ1 HB1
  go_upto_region 2 with (refine wpList_store_row rfl 95 (.tmp 5) (.tmp 12) rfl w2.heap.size (wcells KK) rfl rfl 95 _ (z66 w2) HEK.out HEK2.out (wcells_one _) ?_)
  refine gen_world (fun u => Bk u w.heap.size 80 (s8 s) ∧ Bk u (w.heap.size + 1) 80 (wcells [0, 0, 0, 0, 0, 0, 0, 0]) ∧ Bk u w2.heap.size 95 (wcells KK) ∧ Below w.heap.size w u) ⟨(HH2.out.alloc _).setRowFar (by have := HH2.out.lt; omega) _, (HZ2.out.alloc _).setRowFar (by have := HZ2.out.lt; omega) _, (z66 w2).setRow _, Below.setRow (HB2.out.alloc HB2.out.size _) _ HB2.out.size _⟩ (fun w3 hw3 => ?_)
  obtain ⟨g5, hg5⟩ : ∃ g, g = w2.heap.size := ⟨_, rfl⟩
  rw [← hg5] at hw3 ⊢
  have HG5 := Lib.hid (show w.heap.size + 1 < g5 by have := HZ2.out.lt; omega)
  have HH3 := Lib.hid hw3.1
  have HZ3 := Lib.hid hw3.2.1
  have HK3 := Lib.hid hw3.2.2.1
  have HB3 := Lib.hid hw3.2.2.2
  clear hw3 hg5 HH2 HZ2 HB2
  go_wp2_with fail
  refine (rsched_ok b o c bl _ HBL.out (by have h1 := HBH.out; have h2 := HB3.out.size; omega) hc ((HR.out.below HB3.out (Nat.le_refl _)).more HB3.out.size)).mono ?_
  rintro e w4 ⟨rfl, hb4⟩
  rw [← HW.out]
  have HH4 := Lib.hid (HH3.out.below hb4 HH3.out.lt)
  have HZ4 := Lib.hid (HZ3.out.below hb4 HZ3.out.lt)
  have HK4 := Lib.hid (HK3.out.below hb4 HK3.out.lt)
  have HB4 := Lib.hid (HB3.out.trans (hb4.mono HB3.out.size))
  clear hb4 HH3 HZ3 HK3 HB3
  go_upto_region 3 with (refine wpList_store_row rfl 95 (.tmp 6) (.tmp 14) rfl w4.heap.size (wcells W) rfl rfl 95 _ (z66 w4) HEW.out HEW2.out (wcells_one _) ?_)
  refine gen_world (fun u => Bk u w.heap.size 80 (s8 s) ∧ Bk u (w.heap.size + 1) 80 (wcells [0, 0, 0, 0, 0, 0, 0, 0]) ∧ Bk u g5 95 (wcells KK) ∧ Bk u w4.heap.size 95 (wcells W) ∧ Below w.heap.size w u) ⟨(HH4.out.alloc _).setRowFar (by have := HH4.out.lt; omega) _, (HZ4.out.alloc _).setRowFar (by have := HZ4.out.lt; omega) _, (HK4.out.alloc _).setRowFar (by have := HK4.out.lt; omega) _, (z66 w4).setRow _, Below.setRow (HB4.out.alloc HB4.out.size _) _ HB4.out.size _⟩ (fun w5 hw5 => ?_)
  obtain ⟨g6, hg6⟩ : ∃ g, g = w4.heap.size := ⟨_, rfl⟩
  rw [← hg6] at hw5 ⊢
  have HG6 := Lib.hid (show g5 < g6 by have := HK4.out.lt; omega)
  have HH5 := Lib.hid hw5.1
  have HZ5 := Lib.hid hw5.2.1
  have HK5 := Lib.hid hw5.2.2.1
  have HW5 := Lib.hid hw5.2.2.2.1
  have HB5 := Lib.hid hw5.2.2.2.2
  clear hw5 hg6 HH4 HZ4 HK4 HB4
  go_upto_region 4 with (first
    | refine wpList_load_row rfl 80 (.tmp 2) rfl w.heap.size rfl 80 _ (0, 0) _ HH5.out Tryd.underlying80 rfl (HE8.out s) ?_
    | refine wpList_store_row rfl 80 (.tmp 7) (.tmp 15) rfl w5.heap.size (s8 s) rfl rfl 80 _ (z45 w5) (HE8.out s) (z8_size s) (s8_one s) ?_)
  refine gen_world (fun u => RB w g5 g6 w5.heap.size s s W u) ⟨(HH5.out.alloc _).setRowFar (by have := HH5.out.lt; omega) _, (HZ5.out.alloc _).setRowFar (by have := HZ5.out.lt; omega) _, (HK5.out.alloc _).setRowFar (by have := HK5.out.lt; omega) _, (HW5.out.alloc _).setRowFar (by have := HW5.out.lt; omega) _, (z45 w5).setRow _, Below.setRow (HB5.out.alloc HB5.out.size _) _ HB5.out.size _⟩ (fun w6 hw6 => ?_)
  obtain ⟨g7, hg7⟩ : ∃ g, g = w5.heap.size := ⟨_, rfl⟩
  rw [← hg7] at hw6 ⊢
  have HG7 := Lib.hid (show g6 < g7 by have := HW5.out.lt; omega)
  have HRB := Lib.hid hw6
  clear hw6 hg7 HH5 HZ5 HK5 HW5 HB5
  have hADD : ∀ x y : Nat, ((x : Int) + (y : Int)) % 4294967296 = ((wadd x y : Nat) : Int) := v_add
  have hADD2 : ∀ x y : Nat, IntKind.u32.wrap ((x : Int) + (y : Int)) = ((wadd x y : Nat) : Int) := w_add
  have hXOR : ∀ x y : Nat, bits .xor .u32 (x : Int) (y : Int) = ((wxor x y : Nat) : Int) := w_xor
  have hAND : ∀ x y : Nat, bits .and .u32 (x : Int) (y : Int) = ((wand x y : Nat) : Int) := w_and
  have hNOT : ∀ x : Nat, bits .xor .u32 (if IntKind.u32.signed = true then -1 else IntKind.u32.max) (x : Int) = ((wnot x : Nat) : Int) := fun x => by rw [show (if IntKind.u32.signed = true then (-1 : Int) else IntKind.u32.max) = 4294967295 by decide]; exact w_not x
  go_wp2_with fail
  go_loopw [8] (fun v8 wr => ∃ i : Nat, i ≤ 64 ∧ v8 = .int .i64 i ∧ Hid (RB w g5 g6 g7 s (rounds W s i) W wr)) (fun v8 _ => 64 - (intOf v8).toNat)
  case atStart => exact ⟨0, by omega, rfl, HRB⟩
  case round =>
    obtain ⟨i, hi, rfl, HX⟩ := hrel
    clear HRB
    by_cases hi1 : i < 64
    · have HOK := Lib.hid (rounds_ok W HSO.out i)
      have HRN := Lib.hid (show rounds W s (i + 1) = round1 (rounds W s i) (KK.getD i 0) (W.getD i 0) by rw [rounds])
      obtain ⟨r, hr⟩ : ∃ r, r = rounds W s i := ⟨_, rfl⟩
      rw [← hr] at HOK HRN HX
      clear hr
      have hk : wr.cell? ⟨g5, i, none⟩ = some (.int .u32 ((KK.getD i 0 : Nat) : Int)) := by rw [HX.out.k.cell, wcells_at KK i (by rw [KK_len]; exact hi1)]
      have hw : wr.cell? ⟨g6, i, none⟩ = some (.int .u32 ((W.getD i 0 : Nat) : Int)) := by rw [HX.out.w_.cell, wcells_at W i (by rw [HWL.out]; exact hi1)]
      obtain ⟨k, hkk⟩ : ∃ k, k = KK.getD i 0 := ⟨_, rfl⟩
      obtain ⟨x, hxx⟩ : ∃ x, x = W.getD i 0 := ⟨_, rfl⟩
      rw [← hkk] at hk HRN; rw [← hxx] at hw HRN
      clear hkk hxx
      obtain ⟨ca, cb, cc, cd, ce, cf, cg, ch⟩ := s8_at r wr g7 HX.out.s_
      have bi : (i : Int) < 64 := by omega
      have HQE := Lib.hid (fun n => rgreat_e r.e wr n HOK.out.e)
      have HQA := Lib.hid (rgreat_a r.a)
      go_wp2_with fail
      go_quiet (((go_at_call 56; with_reducible exact Calls.quiet_of (HQE.out _))))
      refine gen_q (fun u => RB w g5 g6 g7 s r W u) (HX.out.drewN _) (fun wr2 HX2 => ?_)
      have HX2 := Lib.hid HX2
      clear ca cb cc cd ce cf cg ch hk hw HX HQE
      obtain ⟨ca, cb, cc, cd, ce, cf, cg, ch⟩ := s8_at r wr2 g7 HX2.out.s_
      have HQB := Lib.hid (fun n => HQA.out wr2 n HOK.out.a)
      clear HQA
      go_wp2_with fail
      go_quiet (((go_at_call 56; with_reducible exact Calls.quiet_of (HQB.out _))))
      refine gen_q (fun u => RB w g5 g6 g7 s r W u) (HX2.out.drewN _) (fun wr3 HX3 => ?_)
      have HX3 := Lib.hid HX3
      clear ca cb cc cd ce cf cg ch HX2 HQB
      obtain ⟨ca, cb, cc, cd, ce, cf, cg, ch⟩ := s8_at r wr3 g7 HX3.out.s_
      go_wp2_with (refine wpList_store_row rfl 80 (.tmp 7) (.tmp 87) rfl g7 (s8 (round1 r k x)) rfl (by rfl) 80 _ HX3.out.s_ (HE8.out _) (s8_same _ _) (s8_one _) ?_)
      go_roundw
      case rel =>
        refine ⟨i + 1, by omega, by go_num, Lib.hid ?_⟩
        rw [HRN.out]
        have h5 := HG5.out
        have h6 := HG6.out
        have h7 := HG7.out
        exact ⟨HX3.out.h.setRowFar (by omega) _, HX3.out.z.setRowFar (by omega) _, HX3.out.k.setRowFar (by omega) _, HX3.out.w_.setRowFar (by omega) _, HX3.out.s_.setRow _, Below.setRow HX3.out.b _ (by omega) _⟩
      case measure => simp [intOf]; omega
    · have hi2 : (64 : Int) ≤ (i : Int) := by omega
      have HR64 := Lib.hid (show block1 s W = addS s (rounds W s i) by rw [show i = 64 by omega, block1])
      have HRO := Lib.hid (rounds_ok W HSO.out i)
      obtain ⟨r, hr⟩ : ∃ r, r = rounds W s i := ⟨_, rfl⟩
      rw [← hr] at HX HRO HR64
      clear hr
      have HX0 := Lib.hid (show Bk wr w.heap.size 80 (s8 (mix s r 0)) ∧ Bk wr (w.heap.size + 1) 80 (wcells [0, 0, 0, 0, 0, 0, 0, 0]) ∧ Bk wr g7 80 (s8 r) ∧ Below w.heap.size w wr from ⟨HX.out.h, HX.out.z, HX.out.s_, HX.out.b⟩)
      clear HX
      go_wp2_with fail
      go_loopw [11] (fun v11 wr => ∃ j : Nat, j ≤ 8 ∧ v11 = .int .i64 j ∧ Hid (Bk wr w.heap.size 80 (s8 (mix s r j)) ∧ Bk wr (w.heap.size + 1) 80 (wcells [0, 0, 0, 0, 0, 0, 0, 0]) ∧ Bk wr g7 80 (s8 r) ∧ Below w.heap.size w wr)) (fun v11 _ => 8 - (intOf v11).toNat)
      case atStart => exact ⟨0, by omega, rfl, HX0⟩
      case round =>
        obtain ⟨j, hj, rfl, HY⟩ := hrel
        clear HX0
        obtain rfl | rfl | rfl | rfl | rfl | rfl | rfl | rfl | rfl : j = 0 ∨ j = 1 ∨ j = 2 ∨ j = 3 ∨ j = 4 ∨ j = 5 ∨ j = 6 ∨ j = 7 ∨ j = 8 := by omega
        · have hc1 : wr.cell? ⟨w.heap.size, 0, none⟩ = some (.int .u32 (s.a : Int)) := (HY.out.1.cell 0).trans (mix_at_0 s r)
          have hf1 : wr.frozen? ⟨w.heap.size, 0, none⟩ = false := HY.out.1.frozen 0
          have hc2 : wr.cell? ⟨g7, 0, none⟩ = some (.int .u32 (r.a : Int)) := HY.out.2.2.1.cell 0
          go_wp2_with fail
          go_still_tail 9, (by kernel_rfl)
          go_wp2_with fail
          go_roundw
          case rel =>
            have h5 := HG5.out
            have h6 := HG6.out
            have h7 := HG7.out
            refine ⟨1, by omega, rfl, Lib.hid ⟨?_, ?_, ?_, ?_⟩⟩
            · rw [← mix_set_0]; exact (HY.out.1.set 0 _).drew
            · exact (HY.out.2.1.far (p := ⟨w.heap.size, 0, none⟩) (by show w.heap.size + 1 ≠ w.heap.size; omega) _).drew
            · exact (HY.out.2.2.1.far (p := ⟨w.heap.size, 0, none⟩) (by show g7 ≠ w.heap.size; omega) _).drew
            · exact (HY.out.2.2.2.setCell (p := ⟨w.heap.size, 0, none⟩) (Nat.le_refl _) _).drew
          case measure => simp [intOf]
        · have hc1 : wr.cell? ⟨w.heap.size, 1, none⟩ = some (.int .u32 (s.b : Int)) := (HY.out.1.cell 1).trans (mix_at_1 s r)
          have hf1 : wr.frozen? ⟨w.heap.size, 1, none⟩ = false := HY.out.1.frozen 1
          have hc2 : wr.cell? ⟨g7, 1, none⟩ = some (.int .u32 (r.b : Int)) := HY.out.2.2.1.cell 1
          go_wp2_with fail
          go_still_tail 9, (by kernel_rfl)
          go_wp2_with fail
          go_roundw
          case rel =>
            have h5 := HG5.out
            have h6 := HG6.out
            have h7 := HG7.out
            refine ⟨2, by omega, rfl, Lib.hid ⟨?_, ?_, ?_, ?_⟩⟩
            · rw [← mix_set_1]; exact (HY.out.1.set 1 _).drew
            · exact (HY.out.2.1.far (p := ⟨w.heap.size, 1, none⟩) (by show w.heap.size + 1 ≠ w.heap.size; omega) _).drew
            · exact (HY.out.2.2.1.far (p := ⟨w.heap.size, 1, none⟩) (by show g7 ≠ w.heap.size; omega) _).drew
            · exact (HY.out.2.2.2.setCell (p := ⟨w.heap.size, 1, none⟩) (Nat.le_refl _) _).drew
          case measure => simp [intOf]
        · have hc1 : wr.cell? ⟨w.heap.size, 2, none⟩ = some (.int .u32 (s.c : Int)) := (HY.out.1.cell 2).trans (mix_at_2 s r)
          have hf1 : wr.frozen? ⟨w.heap.size, 2, none⟩ = false := HY.out.1.frozen 2
          have hc2 : wr.cell? ⟨g7, 2, none⟩ = some (.int .u32 (r.c : Int)) := HY.out.2.2.1.cell 2
          go_wp2_with fail
          go_still_tail 9, (by kernel_rfl)
          go_wp2_with fail
          go_roundw
          case rel =>
            have h5 := HG5.out
            have h6 := HG6.out
            have h7 := HG7.out
            refine ⟨3, by omega, rfl, Lib.hid ⟨?_, ?_, ?_, ?_⟩⟩
            · rw [← mix_set_2]; exact (HY.out.1.set 2 _).drew
            · exact (HY.out.2.1.far (p := ⟨w.heap.size, 2, none⟩) (by show w.heap.size + 1 ≠ w.heap.size; omega) _).drew
            · exact (HY.out.2.2.1.far (p := ⟨w.heap.size, 2, none⟩) (by show g7 ≠ w.heap.size; omega) _).drew
            · exact (HY.out.2.2.2.setCell (p := ⟨w.heap.size, 2, none⟩) (Nat.le_refl _) _).drew
          case measure => simp [intOf]
        · have hc1 : wr.cell? ⟨w.heap.size, 3, none⟩ = some (.int .u32 (s.d : Int)) := (HY.out.1.cell 3).trans (mix_at_3 s r)
          have hf1 : wr.frozen? ⟨w.heap.size, 3, none⟩ = false := HY.out.1.frozen 3
          have hc2 : wr.cell? ⟨g7, 3, none⟩ = some (.int .u32 (r.d : Int)) := HY.out.2.2.1.cell 3
          go_wp2_with fail
          go_still_tail 9, (by kernel_rfl)
          go_wp2_with fail
          go_roundw
          case rel =>
            have h5 := HG5.out
            have h6 := HG6.out
            have h7 := HG7.out
            refine ⟨4, by omega, rfl, Lib.hid ⟨?_, ?_, ?_, ?_⟩⟩
            · rw [← mix_set_3]; exact (HY.out.1.set 3 _).drew
            · exact (HY.out.2.1.far (p := ⟨w.heap.size, 3, none⟩) (by show w.heap.size + 1 ≠ w.heap.size; omega) _).drew
            · exact (HY.out.2.2.1.far (p := ⟨w.heap.size, 3, none⟩) (by show g7 ≠ w.heap.size; omega) _).drew
            · exact (HY.out.2.2.2.setCell (p := ⟨w.heap.size, 3, none⟩) (Nat.le_refl _) _).drew
          case measure => simp [intOf]
        · have hc1 : wr.cell? ⟨w.heap.size, 4, none⟩ = some (.int .u32 (s.e : Int)) := (HY.out.1.cell 4).trans (mix_at_4 s r)
          have hf1 : wr.frozen? ⟨w.heap.size, 4, none⟩ = false := HY.out.1.frozen 4
          have hc2 : wr.cell? ⟨g7, 4, none⟩ = some (.int .u32 (r.e : Int)) := HY.out.2.2.1.cell 4
          go_wp2_with fail
          go_still_tail 9, (by kernel_rfl)
          go_wp2_with fail
          go_roundw
          case rel =>
            have h5 := HG5.out
            have h6 := HG6.out
            have h7 := HG7.out
            refine ⟨5, by omega, rfl, Lib.hid ⟨?_, ?_, ?_, ?_⟩⟩
            · rw [← mix_set_4]; exact (HY.out.1.set 4 _).drew
            · exact (HY.out.2.1.far (p := ⟨w.heap.size, 4, none⟩) (by show w.heap.size + 1 ≠ w.heap.size; omega) _).drew
            · exact (HY.out.2.2.1.far (p := ⟨w.heap.size, 4, none⟩) (by show g7 ≠ w.heap.size; omega) _).drew
            · exact (HY.out.2.2.2.setCell (p := ⟨w.heap.size, 4, none⟩) (Nat.le_refl _) _).drew
          case measure => simp [intOf]
        · have hc1 : wr.cell? ⟨w.heap.size, 5, none⟩ = some (.int .u32 (s.f : Int)) := (HY.out.1.cell 5).trans (mix_at_5 s r)
          have hf1 : wr.frozen? ⟨w.heap.size, 5, none⟩ = false := HY.out.1.frozen 5
          have hc2 : wr.cell? ⟨g7, 5, none⟩ = some (.int .u32 (r.f : Int)) := HY.out.2.2.1.cell 5
          go_wp2_with fail
          go_still_tail 9, (by kernel_rfl)
          go_wp2_with fail
          go_roundw
          case rel =>
            have h5 := HG5.out
            have h6 := HG6.out
            have h7 := HG7.out
            refine ⟨6, by omega, rfl, Lib.hid ⟨?_, ?_, ?_, ?_⟩⟩
            · rw [← mix_set_5]; exact (HY.out.1.set 5 _).drew
            · exact (HY.out.2.1.far (p := ⟨w.heap.size, 5, none⟩) (by show w.heap.size + 1 ≠ w.heap.size; omega) _).drew
            · exact (HY.out.2.2.1.far (p := ⟨w.heap.size, 5, none⟩) (by show g7 ≠ w.heap.size; omega) _).drew
            · exact (HY.out.2.2.2.setCell (p := ⟨w.heap.size, 5, none⟩) (Nat.le_refl _) _).drew
          case measure => simp [intOf]
        · have hc1 : wr.cell? ⟨w.heap.size, 6, none⟩ = some (.int .u32 (s.g : Int)) := (HY.out.1.cell 6).trans (mix_at_6 s r)
          have hf1 : wr.frozen? ⟨w.heap.size, 6, none⟩ = false := HY.out.1.frozen 6
          have hc2 : wr.cell? ⟨g7, 6, none⟩ = some (.int .u32 (r.g : Int)) := HY.out.2.2.1.cell 6
          go_wp2_with fail
          go_still_tail 9, (by kernel_rfl)
          go_wp2_with fail
          go_roundw
          case rel =>
            have h5 := HG5.out
            have h6 := HG6.out
            have h7 := HG7.out
            refine ⟨7, by omega, rfl, Lib.hid ⟨?_, ?_, ?_, ?_⟩⟩
            · rw [← mix_set_6]; exact (HY.out.1.set 6 _).drew
            · exact (HY.out.2.1.far (p := ⟨w.heap.size, 6, none⟩) (by show w.heap.size + 1 ≠ w.heap.size; omega) _).drew
            · exact (HY.out.2.2.1.far (p := ⟨w.heap.size, 6, none⟩) (by show g7 ≠ w.heap.size; omega) _).drew
            · exact (HY.out.2.2.2.setCell (p := ⟨w.heap.size, 6, none⟩) (Nat.le_refl _) _).drew
          case measure => simp [intOf]
        · have hc1 : wr.cell? ⟨w.heap.size, 7, none⟩ = some (.int .u32 (s.h : Int)) := (HY.out.1.cell 7).trans (mix_at_7 s r)
          have hf1 : wr.frozen? ⟨w.heap.size, 7, none⟩ = false := HY.out.1.frozen 7
          have hc2 : wr.cell? ⟨g7, 7, none⟩ = some (.int .u32 (r.h : Int)) := HY.out.2.2.1.cell 7
          go_wp2_with fail
          go_still_tail 9, (by kernel_rfl)
          go_wp2_with fail
          go_roundw
          case rel =>
            have h5 := HG5.out
            have h6 := HG6.out
            have h7 := HG7.out
            refine ⟨8, by omega, rfl, Lib.hid ⟨?_, ?_, ?_, ?_⟩⟩
            · rw [← mix_set_7]; exact (HY.out.1.set 7 _).drew
            · exact (HY.out.2.1.far (p := ⟨w.heap.size, 7, none⟩) (by show w.heap.size + 1 ≠ w.heap.size; omega) _).drew
            · exact (HY.out.2.2.1.far (p := ⟨w.heap.size, 7, none⟩) (by show g7 ≠ w.heap.size; omega) _).drew
            · exact (HY.out.2.2.2.setCell (p := ⟨w.heap.size, 7, none⟩) (Nat.le_refl _) _).drew
          case measure => simp [intOf]
        · go_wp2_with (first
            | refine wpList_load_row rfl 80 (.tmp 2) rfl w.heap.size rfl 80 _ (0, 0) _ HY.out.1 Tryd.underlying80 rfl (HE8.out _) ?_
            | refine wpList_store_row rfl 80 (.tmp 4) (.tmp 101) rfl (w.heap.size + 1) (s8 (mix s r 8)) rfl rfl 80 _ HY.out.2.1 (HE8.out _) (z8_size _) (s8_one _) ?_)
          obtain ⟨w9, hw9⟩ : ∃ w9, w9 = wr.setRow (w.heap.size + 1) (s8 (mix s r 8)) := ⟨_, rfl⟩
          have HB9 : Bk w9 (w.heap.size + 1) 80 (s8 (mix s r 8)) := by rw [hw9]; exact HY.out.2.1.setRow _
          have hbel9 : Below w.heap.size w w9 := by rw [hw9]; exact Below.setRow HY.out.2.2.2 _ (Nat.le_succ _) _
          rw [← hw9]
          refine bodyPost_ret (results_cell_row rfl _ _ (w.heap.size + 1) 80 _ (0, 0) _ rfl HB9 Tryd.underlying80 rfl (HE8.out _)) rfl ?_
          exact ⟨by rw [HR64.out, ← mix_8], hbel9⟩
end Go.Proofs.YtinbegnojfpeiaaDoor
