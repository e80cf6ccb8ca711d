/- stir: a state with a block's words stirred in. (Written by gen_stir.py.) -/
import Derived.Test.YtinbegnojfpeiaaDoorStretch
import Derived.Test.YtinbegnojfpeiaaDoorG2
namespace Go.Proofs.YtinbegnojfpeiaaDoor
set_option linter.unusedVariables false
set_option maxRecDepth 100000
set_option linter.unusedSimpArgs false
open Go.RowKit

theorem turned_e (x : Nat) (w : World) (hx : x < 4294967296) : Calls Tryd.prog 69 #[.int .u32 (x : Int), .agg #[.int .i64 6, .int .i64 11, .int .i64 25]] w fun e w' => e = .returned (.int .u32 ((great x 6 11 25 : Nat) : Int)) ∧ Below w.heap.size w w' :=
  turned_ok x 6 11 25 w hx (by omega) (by omega) (by omega)
theorem turned_a (x : Nat) (w : World) (hx : x < 4294967296) : Calls Tryd.prog 69 #[.int .u32 (x : Int), .agg #[.int .i64 2, .int .i64 13, .int .i64 22]] w fun e w' => e = .returned (.int .u32 ((great x 2 13 22 : Nat) : Int)) ∧ Below w.heap.size w w' :=
  turned_ok x 2 13 22 w hx (by omega) (by omega) (by omega)

theorem idx_0 (r : St) (u : World) : (Instr.index 80 (A8 r) (.int .i64 0)).run Tryd.prog u = .ok (wd r.a) u := by kernel_rfl
theorem idx_1 (r : St) (u : World) : (Instr.index 80 (A8 r) (.int .i64 1)).run Tryd.prog u = .ok (wd r.b) u := by kernel_rfl
theorem idx_2 (r : St) (u : World) : (Instr.index 80 (A8 r) (.int .i64 2)).run Tryd.prog u = .ok (wd r.c) u := by kernel_rfl
theorem idx_3 (r : St) (u : World) : (Instr.index 80 (A8 r) (.int .i64 3)).run Tryd.prog u = .ok (wd r.d) u := by kernel_rfl
theorem idx_4 (r : St) (u : World) : (Instr.index 80 (A8 r) (.int .i64 4)).run Tryd.prog u = .ok (wd r.e) u := by kernel_rfl
theorem idx_5 (r : St) (u : World) : (Instr.index 80 (A8 r) (.int .i64 5)).run Tryd.prog u = .ok (wd r.f) u := by kernel_rfl
theorem idx_6 (r : St) (u : World) : (Instr.index 80 (A8 r) (.int .i64 6)).run Tryd.prog u = .ok (wd r.g) u := by kernel_rfl
theorem idx_7 (r : St) (u : World) : (Instr.index 80 (A8 r) (.int .i64 7)).run Tryd.prog u = .ok (wd r.h) u := by kernel_rfl
set_option maxRecDepth 100000 in
set_option maxHeartbeats 2000000 in
theorem stir_ok (s : St) (l : List Nat) (w : World) (hs : s.Ok) (hl : l.length = 64) (hG : Gl w) :
    Calls Tryd.prog 64 #[A8 s, .agg (wcells l)] w fun e w' => e = .returned (A8 (block1 s l)) ∧ Below w.heap.size w w' := by
  have HL := Lib.hid hl
  have HG := Lib.hid hG
  have HSO := Lib.hid hs
  clear hl hG hs
  go_enter Tryd.func64, Tryd.ntmps64
  go_wp2_with fail
  go_quiet (fail)
  go_wp2_with fail
  refine gen_world (fun u => Bk u w.heap.size 80 (s8 s) ∧ Bk u (w.heap.size + 1) 95 (wcells l) ∧ Bk u (w.heap.size + 1 + 1) 80 (wcells [0, 0, 0, 0, 0, 0, 0, 0]) ∧ Below w.heap.size w u ∧ u.heap.size = w.heap.size + 3) ?_ (fun w1 hw1 => ?_)
  · have h1 : Bk (w.alloc (.cells (s8 s) 80)) w.heap.size 80 (s8 s) := Bk.new _ _ _
    refine ⟨(h1.alloc _).alloc _, Bk.alloc (Bk.here ?_) _, Bk.here ?_, ?_, ?_⟩
    · show _ = (w.heap.push _).size; rw [Array.size_push]
    · show _ = ((w.heap.push _).push _).size; rw [Array.size_push, Array.size_push]
    · exact Below.drewN' (by go_grown) _
    · show (((w.heap.push _).push _).push _).size = _; rw [Array.size_push, Array.size_push, Array.size_push]
  obtain ⟨hA, hW, hA0, hbel1, hsz⟩ := hw1
  have HA := Lib.hid hA
  have HW := Lib.hid hW
  have HA0 := Lib.hid hA0
  have HB1 := Lib.hid hbel1
  have HSZ := Lib.hid hsz
  clear hA hW hA0 hbel1 hsz
  go_loopw [34, 5, 6, 7, 8, 9, 10, 11, 12] (fun v34 v5 v6 v7 v8 v9 v10 v11 v12 wr => ∃ i : Nat, i ≤ 64 ∧ v34 = .int .i64 i ∧ v5 = wd (rounds l s i).a ∧ v6 = wd (rounds l s i).b ∧ v7 = wd (rounds l s i).c ∧ v8 = wd (rounds l s i).d ∧ v9 = wd (rounds l s i).e ∧ v10 = wd (rounds l s i).f ∧ v11 = wd (rounds l s i).g ∧ v12 = wd (rounds l s i).h ∧ Hid (Below w1.heap.size w1 wr)) (fun v34 _ _ _ _ _ _ _ _ _ => 64 - (intOf v34).toNat)
  case atStart => exact ⟨0, by omega, rfl, rfl, rfl, rfl, rfl, rfl, rfl, rfl, rfl, Lib.hid (Below.refl _ _)⟩
  case round =>
    obtain ⟨i, hi, rfl, rfl, rfl, rfl, rfl, rfl, rfl, rfl, rfl, HBB⟩ := hrel
    by_cases hi1 : i < 64
    · have HOK := Lib.hid (rounds_ok l HSO.out i)
      have HR := Lib.hid (show rounds l s (i + 1) = round1 (rounds l s i) (KK.getD i 0) (l.getD i 0) by rw [rounds])
      obtain ⟨r, hr⟩ : ∃ r, r = rounds l s i := ⟨_, rfl⟩
      rw [← hr] at HOK HR ⊢
      clear hr
      have HKC := Lib.hid (show ∀ u, Below wr.heap.size wr u → u.cell? ⟨1, i, none⟩ = some (.int .u32 ((KK.getD i 0 : Nat) : Int)) by
        intro u hu
        have h1 := HG.out.size
        have h2 := HB1.out.size
        have h3 := HBB.out.size
        rw [hu.cell (p := ⟨1, i, none⟩) (by show 1 < wr.heap.size; omega), HBB.out.cell (p := ⟨1, i, none⟩) (by show 1 < w1.heap.size; omega), HB1.out.cell (p := ⟨1, i, none⟩) (by show 1 < w.heap.size; omega)]
        exact HG.out.root i hi1)
      have HWC := Lib.hid (show ∀ u, Below wr.heap.size wr u → u.cell? ⟨w.heap.size + 1, i, none⟩ = some (.int .u32 ((l.getD i 0 : Nat) : Int)) by
        intro u hu
        have h2 := HSZ.out
        have h3 := HBB.out.size
        rw [hu.cell (p := ⟨w.heap.size + 1, i, none⟩) (by show w.heap.size + 1 < wr.heap.size; omega), HBB.out.cell (p := ⟨w.heap.size + 1, i, none⟩) (by show w.heap.size + 1 < w1.heap.size; omega)]
        rw [HW.out.cell, wcells_at l i (by rw [HL.out]; exact hi1)])
      obtain ⟨k, hk⟩ : ∃ k, k = KK.getD i 0 := ⟨_, rfl⟩
      obtain ⟨x, hx⟩ : ∃ x, x = l.getD i 0 := ⟨_, rfl⟩
      rw [← hk] at HKC HR; rw [← hx] at HWC HR
      clear hk hx
      obtain ⟨S, hS⟩ : ∃ S : World → Prop, S = fun u => Below wr.heap.size wr u := ⟨_, rfl⟩
      have HS0 := Lib.hid (show S wr.drew by rw [hS]; exact (Below.refl _ _).drew)
      have HSW := Lib.hid (show ∀ u u', S u → Below u.heap.size u u' → S u' by rw [hS]; exact fun u u' h hb => h.trans (hb.mono h.size))
      have HSE := Lib.hid (show ∀ u, S u → Below wr.heap.size wr u by rw [hS]; exact fun u h => h)
      replace HKC := Lib.hid (show ∀ u, S u → u.cell? ⟨1, i, none⟩ = some (.int .u32 (k : Int)) by rw [hS]; exact HKC.out)
      replace HWC := Lib.hid (show ∀ u, S u → u.cell? ⟨w.heap.size + 1, i, none⟩ = some (.int .u32 (x : Int)) by rw [hS]; exact HWC.out)
      clear hS
      have bi : (i : Int) < 64 := by omega
      have hADD : ∀ x y : Nat, ((x : Int) + (y : Int)) % 4294967296 = ((wadd x y : Nat) : Int) := v_add
      have hADD2 : ∀ x y : Nat, IntKind.u32.wrap ((x : Int) + (y : Int)) = ((wadd x y : Nat) : Int) := w_add
      have hXOR : ∀ x y : Nat, bits .xor .u32 (x : Int) (y : Int) = ((wxor x y : Nat) : Int) := w_xor
      have hAND : ∀ x y : Nat, bits .and .u32 (x : Int) (y : Int) = ((wand x y : Nat) : Int) := w_and
      have hNOT : ∀ x : Nat, bits .xor .u32 IntKind.u32.max (x : Int) = ((wnot x : Nat) : Int) := fun x => by rw [show IntKind.u32.max = 4294967295 by decide]; exact w_not x
      go_wp2_with fail
      try simp only [List.cons_append, List.nil_append]
      refine wp_region_held_drew (S := S) (by kernel_rfl) (HS0.out) (fun hHeld => ?_)
      refine take_at (some 37) (i := 0) (v := ?_) rfl rfl (by kernel_rfl) (by kernel_rfl) (by kernel_rfl) (fun _ _ _ h => h) (Or.inl ⟨by kernel_rfl, ?_⟩) hHeld ?_
      rotate_left
      · intro wz hSw; go_simp; try (with_reducible rfl)
      try simp only [Act.put, List.setIfInBounds_toArray, List.set_cons_zero, List.set_cons_succ, List.getElem_toArray, List.getElem_cons_succ, List.getElem_cons_zero]
      refine take_at (some 38) (i := 1) (v := ?_) rfl rfl (by kernel_rfl) (by kernel_rfl) (by kernel_rfl) (fun _ _ _ h => h) (Or.inl ⟨by kernel_rfl, ?_⟩) hHeld ?_
      rotate_left
      · intro wz hSw; go_simp; try (with_reducible rfl)
      try simp only [Act.put, List.setIfInBounds_toArray, List.set_cons_zero, List.set_cons_succ, List.getElem_toArray, List.getElem_cons_succ, List.getElem_cons_zero]
      refine take_at (some 39) (i := 2) (v := ?_) rfl rfl (by kernel_rfl) (by kernel_rfl) (by kernel_rfl) (fun _ _ _ h => h) (Or.inl ⟨by kernel_rfl, ?_⟩) hHeld ?_
      rotate_left
      · intro wz hSw; go_simp; try (with_reducible rfl)
      try simp only [Act.put, List.setIfInBounds_toArray, List.set_cons_zero, List.set_cons_succ, List.getElem_toArray, List.getElem_cons_succ, List.getElem_cons_zero]
      refine take_at (some 42) (i := 5) (v := ?_) rfl rfl (by kernel_rfl) (by kernel_rfl) (by kernel_rfl) (fun _ _ _ h => h) (Or.inl ⟨by kernel_rfl, ?_⟩) hHeld ?_
      rotate_left
      · intro wz hSw; go_simp; try (with_reducible rfl)
      try simp only [Act.put, List.setIfInBounds_toArray, List.set_cons_zero, List.set_cons_succ, List.getElem_toArray, List.getElem_cons_succ, List.getElem_cons_zero]
      refine take_at (some 43) (i := 6) (v := ?_) rfl rfl (by kernel_rfl) (by kernel_rfl) (by kernel_rfl) (fun _ _ _ h => h) (Or.inl ⟨by kernel_rfl, ?_⟩) hHeld ?_
      rotate_left
      · intro wz hSw; go_simp; try (with_reducible rfl)
      try simp only [Act.put, List.setIfInBounds_toArray, List.set_cons_zero, List.set_cons_succ, List.getElem_toArray, List.getElem_cons_succ, List.getElem_cons_zero]
      refine take_at (some 44) (i := 7) (v := ?_) rfl rfl (by kernel_rfl) (by kernel_rfl) (by kernel_rfl) (fun _ _ _ h => h) (Or.inl ⟨by kernel_rfl, ?_⟩) hHeld ?_
      rotate_left
      · intro wz hSw; go_simp; try (with_reducible rfl)
      try simp only [Act.put, List.setIfInBounds_toArray, List.set_cons_zero, List.set_cons_succ, List.getElem_toArray, List.getElem_cons_succ, List.getElem_cons_zero]
      refine take_at (some 45) (i := 8) (v := ?_) rfl rfl (by kernel_rfl) (by kernel_rfl) (by kernel_rfl) (fun _ _ _ h => h) (Or.inl ⟨by kernel_rfl, ?_⟩) hHeld ?_
      rotate_left
      · intro wz hSw; go_simp; try (with_reducible rfl)
      try simp only [Act.put, List.setIfInBounds_toArray, List.set_cons_zero, List.set_cons_succ, List.getElem_toArray, List.getElem_cons_succ, List.getElem_cons_zero]
      refine take_at (some 46) (i := 9) (v := ?_) rfl rfl (by kernel_rfl) (by kernel_rfl) (by kernel_rfl) (fun _ _ _ h => h) (Or.inl ⟨by kernel_rfl, ?_⟩) hHeld ?_
      rotate_left
      · intro wz hSw; go_simp; try (with_reducible rfl)
      try simp only [Act.put, List.setIfInBounds_toArray, List.set_cons_zero, List.set_cons_succ, List.getElem_toArray, List.getElem_cons_succ, List.getElem_cons_zero]
      refine take_at (some 47) (i := 10) (v := ?_) rfl rfl (by kernel_rfl) (by kernel_rfl) (by kernel_rfl) (fun _ _ _ h => h) (Or.inl ⟨by kernel_rfl, ?_⟩) hHeld ?_
      rotate_left
      · intro wz hSw; go_simp; try (with_reducible rfl)
      try simp only [Act.put, List.setIfInBounds_toArray, List.set_cons_zero, List.set_cons_succ, List.getElem_toArray, List.getElem_cons_succ, List.getElem_cons_zero]
      refine take_at (some 48) (i := 11) (v := ?_) rfl rfl (by kernel_rfl) (by kernel_rfl) (by kernel_rfl) (fun _ _ _ h => h) (Or.inl ⟨by kernel_rfl, ?_⟩) hHeld ?_
      rotate_left
      · intro wz hSw; go_simp; try (with_reducible rfl)
      try simp only [Act.put, List.setIfInBounds_toArray, List.set_cons_zero, List.set_cons_succ, List.getElem_toArray, List.getElem_cons_succ, List.getElem_cons_zero]
      refine take_at (some 49) (i := 12) (v := ?_) rfl rfl (by kernel_rfl) (by kernel_rfl) (by kernel_rfl) (fun _ _ _ h => h) (Or.inl ⟨by kernel_rfl, ?_⟩) hHeld ?_
      rotate_left
      · intro wz hSw; go_simp; try (with_reducible rfl)
      try simp only [Act.put, List.setIfInBounds_toArray, List.set_cons_zero, List.set_cons_succ, List.getElem_toArray, List.getElem_cons_succ, List.getElem_cons_zero]
      refine take_at (some 51) (i := 14) (v := ?_) rfl rfl (by kernel_rfl) (by kernel_rfl) (by kernel_rfl) (fun _ _ _ h => h) (Or.inl ⟨by kernel_rfl, ?_⟩) hHeld ?_
      rotate_left
      · intro wz hSw; go_simp; try (with_reducible rfl)
      try simp only [Act.put, List.setIfInBounds_toArray, List.set_cons_zero, List.set_cons_succ, List.getElem_toArray, List.getElem_cons_succ, List.getElem_cons_zero]
      refine take_at (some 52) (i := 15) (v := ?_) rfl rfl (by kernel_rfl) (by kernel_rfl) (by kernel_rfl) (fun _ _ _ h => h) (Or.inl ⟨by kernel_rfl, ?_⟩) hHeld ?_
      rotate_left
      · intro wz hSw; go_simp; try (with_reducible rfl)
      try simp only [Act.put, List.setIfInBounds_toArray, List.set_cons_zero, List.set_cons_succ, List.getElem_toArray, List.getElem_cons_succ, List.getElem_cons_zero]
      refine take_at (some 53) (i := 16) (v := ?_) rfl rfl (by kernel_rfl) (by kernel_rfl) (by kernel_rfl) (fun _ _ _ h => h) (Or.inl ⟨by kernel_rfl, ?_⟩) hHeld ?_
      rotate_left
      · intro wz hSw; have hcv := HKC.out wz hSw; go_simp; try (with_reducible rfl)
      try simp only [Act.put, List.setIfInBounds_toArray, List.set_cons_zero, List.set_cons_succ, List.getElem_toArray, List.getElem_cons_succ, List.getElem_cons_zero]
      refine take_at (some 55) (i := 18) (v := ?_) rfl rfl (by kernel_rfl) (by kernel_rfl) (by kernel_rfl) (fun _ _ _ h => h) (Or.inl ⟨by kernel_rfl, ?_⟩) hHeld ?_
      rotate_left
      · intro wz hSw; go_simp; try (with_reducible rfl)
      try simp only [Act.put, List.setIfInBounds_toArray, List.set_cons_zero, List.set_cons_succ, List.getElem_toArray, List.getElem_cons_succ, List.getElem_cons_zero]
      refine take_at (some 56) (i := 19) (v := ?_) rfl rfl (by kernel_rfl) (by kernel_rfl) (by kernel_rfl) (fun _ _ _ h => h) (Or.inl ⟨by kernel_rfl, ?_⟩) hHeld ?_
      rotate_left
      · intro wz hSw; go_simp; try (with_reducible rfl)
      try simp only [Act.put, List.setIfInBounds_toArray, List.set_cons_zero, List.set_cons_succ, List.getElem_toArray, List.getElem_cons_succ, List.getElem_cons_zero]
      refine take_at (some 57) (i := 20) (v := ?_) rfl rfl (by kernel_rfl) (by kernel_rfl) (by kernel_rfl) (fun _ _ _ h => h) (Or.inl ⟨by kernel_rfl, ?_⟩) hHeld ?_
      rotate_left
      · intro wz hSw; have hcv := HWC.out wz hSw; go_simp; try (with_reducible rfl)
      try simp only [Act.put, List.setIfInBounds_toArray, List.set_cons_zero, List.set_cons_succ, List.getElem_toArray, List.getElem_cons_succ, List.getElem_cons_zero]
      refine wpAnyH_ready (rs := [3]) (by kernel_rfl) (by simp) (AllReadyH.cons rfl (fun K hK => ?_) AllReadyH.nil)
      rw [if_pos (by kernel_rfl)]
      go_simp
      refine (turned_e r.e _ HOK.out.e).mono ?_
      rintro e w3 ⟨rfl, hb3⟩
      try dsimp only
      refine hK.out _ _ (HSW.out _ _ hHeld hb3) (fun hHeld => ?_)
      try simp only [Act.put, List.setIfInBounds_toArray, List.set_cons_zero, List.set_cons_succ, List.getElem_toArray, List.getElem_cons_succ, List.getElem_cons_zero]
      refine take_at (some 41) (i := 4) (v := ?_) rfl rfl (by kernel_rfl) (by kernel_rfl) (by kernel_rfl) (fun _ _ _ h => h) (Or.inl ⟨by kernel_rfl, ?_⟩) hHeld ?_
      rotate_left
      · intro wz hSw; go_simp; try (with_reducible rfl)
      try simp only [Act.put, List.setIfInBounds_toArray, List.set_cons_zero, List.set_cons_succ, List.getElem_toArray, List.getElem_cons_succ, List.getElem_cons_zero]
      refine take_at (some 50) (i := 13) (v := ?_) rfl rfl (by kernel_rfl) (by kernel_rfl) (by kernel_rfl) (fun _ _ _ h => h) (Or.inl ⟨by kernel_rfl, ?_⟩) hHeld ?_
      rotate_left
      · intro wz hSw; go_simp; try (with_reducible rfl)
      try simp only [Act.put, List.setIfInBounds_toArray, List.set_cons_zero, List.set_cons_succ, List.getElem_toArray, List.getElem_cons_succ, List.getElem_cons_zero]
      refine take_at (some 54) (i := 17) (v := ?_) rfl rfl (by kernel_rfl) (by kernel_rfl) (by kernel_rfl) (fun _ _ _ h => h) (Or.inl ⟨by kernel_rfl, ?_⟩) hHeld ?_
      rotate_left
      · intro wz hSw; go_simp; try (with_reducible rfl)
      try simp only [Act.put, List.setIfInBounds_toArray, List.set_cons_zero, List.set_cons_succ, List.getElem_toArray, List.getElem_cons_succ, List.getElem_cons_zero]
      refine take_at (some 58) (i := 21) (v := ?_) rfl rfl (by kernel_rfl) (by kernel_rfl) (by kernel_rfl) (fun _ _ _ h => h) (Or.inl ⟨by kernel_rfl, ?_⟩) hHeld ?_
      rotate_left
      · intro wz hSw; go_simp; try (with_reducible rfl)
      try simp only [Act.put, List.setIfInBounds_toArray, List.set_cons_zero, List.set_cons_succ, List.getElem_toArray, List.getElem_cons_succ, List.getElem_cons_zero]
      refine take_at (some 14) (i := 22) (v := ?_) rfl rfl (by kernel_rfl) (by kernel_rfl) (by kernel_rfl) (fun _ _ _ h => h) (Or.inl ⟨by kernel_rfl, ?_⟩) hHeld ?_
      rotate_left
      · intro wz hSw; go_simp; try (with_reducible rfl)
      try simp only [Act.put, List.setIfInBounds_toArray, List.set_cons_zero, List.set_cons_succ, List.getElem_toArray, List.getElem_cons_succ, List.getElem_cons_zero]
      refine wpAnyH_done (by kernel_rfl) ?_ _
      have HB5 := Lib.hid (HSE.out _ hHeld)
      clear HSE HSW HS0 HKC HWC
      go_wp2_with fail
      refine (turned_a r.a _ HOK.out.a).mono ?_
      rintro e w6 ⟨rfl, hb6⟩
      replace hb6 := Lib.hid (HB5.out.trans (hb6.mono HB5.out.size))
      go_wp2_with fail
      go_roundw
      case rel =>
        refine ⟨i + 1, by omega, by go_num, ?_, ?_, ?_, ?_, ?_, ?_, ?_, ?_, Lib.hid (HBB.out.trans (hb6.out.mono HBB.out.size))⟩
        · rw [HR.out, round1_a]
        · rw [HR.out, round1]
        · rw [HR.out, round1]
        · rw [HR.out, round1]
        · rw [HR.out, round1_e]
        · rw [HR.out, round1]
        · rw [HR.out, round1]
        · rw [HR.out, round1]
      case measure => simp [intOf]; omega
    · have HBK := Lib.hid (show block1 s l = addS s (rounds l s i) by rw [block1, show i = 64 by omega])
      have HOK := Lib.hid (rounds_ok l HSO.out i)
      obtain ⟨r, hr⟩ : ∃ r, r = rounds l s i := ⟨_, rfl⟩
      rw [← hr] at HOK HBK ⊢
      clear hr
      have HA2 := Lib.hid (show Bk wr w.heap.size 80 (s8 (mix s r 0)) from HA.out.below HBB.out (by rw [HSZ.out]; omega))
      have HA02 := Lib.hid (HA0.out.below HBB.out (by rw [HSZ.out]; omega))
      have HBW := Lib.hid (HB1.out.trans (HBB.out.mono HB1.out.size))
      have hADD : ∀ x y : Nat, ((x : Int) + (y : Int)) % 4294967296 = ((wadd x y : Nat) : Int) := v_add
      have hADD2 : ∀ x y : Nat, IntKind.u32.wrap ((x : Int) + (y : Int)) = ((wadd x y : Nat) : Int) := w_add
      clear HA HW HA0 HBB HB1
      go_wp2_with fail
      go_loopw [96] (fun v96 wr2 => ∃ i : Nat, i ≤ 8 ∧ v96 = .int .i64 i ∧ Hid (Bk wr2 w.heap.size 80 (s8 (mix s r i))) ∧ Hid (Bk wr2 (w.heap.size + 1 + 1) 80 (wcells [0, 0, 0, 0, 0, 0, 0, 0])) ∧ Hid (Below w.heap.size w wr2)) (fun v96 _ => 8 - (intOf v96).toNat)
      case atStart => exact ⟨0, by omega, rfl, HA2, HA02, HBW⟩
      case round =>
        obtain ⟨i, hi, rfl, HB, HB0, HBB⟩ := hrel
        clear HA2 HA02 HBW
        obtain rfl | rfl | rfl | rfl | rfl | rfl | rfl | rfl | rfl : i = 0 ∨ i = 1 ∨ i = 2 ∨ i = 3 ∨ i = 4 ∨ i = 5 ∨ i = 6 ∨ i = 7 ∨ i = 8 := by omega
        · have hc : wr.cell? ⟨w.heap.size, 0, none⟩ = some (.int .u32 (s.a : Int)) := (HB.out.cell 0).trans (mix_at_0 s r)
          have hf : wr.frozen? ⟨w.heap.size, 0, none⟩ = false := HB.out.frozen 0
          go_wp2_with (refine wpList_index rfl 80 (.tmp 95) (.tmp 96) rfl _ _ _ rfl rfl (idx_0 r _) ?_)
          go_roundw
          case rel =>
            refine ⟨1, by omega, rfl, Lib.hid ?_, Lib.hid ?_, Lib.hid ?_⟩
            · rw [← mix_set_0]; exact HB.out.set 0 _
            · exact HB0.out.far (p := ⟨w.heap.size, 0, none⟩) (by show w.heap.size + 1 + 1 ≠ w.heap.size; omega) _
            · exact HBB.out.setCell (p := ⟨w.heap.size, 0, none⟩) (Nat.le_refl _) _
          case measure => simp [intOf]
        · have hc : wr.cell? ⟨w.heap.size, 1, none⟩ = some (.int .u32 (s.b : Int)) := (HB.out.cell 1).trans (mix_at_1 s r)
          have hf : wr.frozen? ⟨w.heap.size, 1, none⟩ = false := HB.out.frozen 1
          go_wp2_with (refine wpList_index rfl 80 (.tmp 95) (.tmp 96) rfl _ _ _ rfl rfl (idx_1 r _) ?_)
          go_roundw
          case rel =>
            refine ⟨2, by omega, rfl, Lib.hid ?_, Lib.hid ?_, Lib.hid ?_⟩
            · rw [← mix_set_1]; exact HB.out.set 1 _
            · exact HB0.out.far (p := ⟨w.heap.size, 1, none⟩) (by show w.heap.size + 1 + 1 ≠ w.heap.size; omega) _
            · exact HBB.out.setCell (p := ⟨w.heap.size, 1, none⟩) (Nat.le_refl _) _
          case measure => simp [intOf]
        · have hc : wr.cell? ⟨w.heap.size, 2, none⟩ = some (.int .u32 (s.c : Int)) := (HB.out.cell 2).trans (mix_at_2 s r)
          have hf : wr.frozen? ⟨w.heap.size, 2, none⟩ = false := HB.out.frozen 2
          go_wp2_with (refine wpList_index rfl 80 (.tmp 95) (.tmp 96) rfl _ _ _ rfl rfl (idx_2 r _) ?_)
          go_roundw
          case rel =>
            refine ⟨3, by omega, rfl, Lib.hid ?_, Lib.hid ?_, Lib.hid ?_⟩
            · rw [← mix_set_2]; exact HB.out.set 2 _
            · exact HB0.out.far (p := ⟨w.heap.size, 2, none⟩) (by show w.heap.size + 1 + 1 ≠ w.heap.size; omega) _
            · exact HBB.out.setCell (p := ⟨w.heap.size, 2, none⟩) (Nat.le_refl _) _
          case measure => simp [intOf]
        · have hc : wr.cell? ⟨w.heap.size, 3, none⟩ = some (.int .u32 (s.d : Int)) := (HB.out.cell 3).trans (mix_at_3 s r)
          have hf : wr.frozen? ⟨w.heap.size, 3, none⟩ = false := HB.out.frozen 3
          go_wp2_with (refine wpList_index rfl 80 (.tmp 95) (.tmp 96) rfl _ _ _ rfl rfl (idx_3 r _) ?_)
          go_roundw
          case rel =>
            refine ⟨4, by omega, rfl, Lib.hid ?_, Lib.hid ?_, Lib.hid ?_⟩
            · rw [← mix_set_3]; exact HB.out.set 3 _
            · exact HB0.out.far (p := ⟨w.heap.size, 3, none⟩) (by show w.heap.size + 1 + 1 ≠ w.heap.size; omega) _
            · exact HBB.out.setCell (p := ⟨w.heap.size, 3, none⟩) (Nat.le_refl _) _
          case measure => simp [intOf]
        · have hc : wr.cell? ⟨w.heap.size, 4, none⟩ = some (.int .u32 (s.e : Int)) := (HB.out.cell 4).trans (mix_at_4 s r)
          have hf : wr.frozen? ⟨w.heap.size, 4, none⟩ = false := HB.out.frozen 4
          go_wp2_with (refine wpList_index rfl 80 (.tmp 95) (.tmp 96) rfl _ _ _ rfl rfl (idx_4 r _) ?_)
          go_roundw
          case rel =>
            refine ⟨5, by omega, rfl, Lib.hid ?_, Lib.hid ?_, Lib.hid ?_⟩
            · rw [← mix_set_4]; exact HB.out.set 4 _
            · exact HB0.out.far (p := ⟨w.heap.size, 4, none⟩) (by show w.heap.size + 1 + 1 ≠ w.heap.size; omega) _
            · exact HBB.out.setCell (p := ⟨w.heap.size, 4, none⟩) (Nat.le_refl _) _
          case measure => simp [intOf]
        · have hc : wr.cell? ⟨w.heap.size, 5, none⟩ = some (.int .u32 (s.f : Int)) := (HB.out.cell 5).trans (mix_at_5 s r)
          have hf : wr.frozen? ⟨w.heap.size, 5, none⟩ = false := HB.out.frozen 5
          go_wp2_with (refine wpList_index rfl 80 (.tmp 95) (.tmp 96) rfl _ _ _ rfl rfl (idx_5 r _) ?_)
          go_roundw
          case rel =>
            refine ⟨6, by omega, rfl, Lib.hid ?_, Lib.hid ?_, Lib.hid ?_⟩
            · rw [← mix_set_5]; exact HB.out.set 5 _
            · exact HB0.out.far (p := ⟨w.heap.size, 5, none⟩) (by show w.heap.size + 1 + 1 ≠ w.heap.size; omega) _
            · exact HBB.out.setCell (p := ⟨w.heap.size, 5, none⟩) (Nat.le_refl _) _
          case measure => simp [intOf]
        · have hc : wr.cell? ⟨w.heap.size, 6, none⟩ = some (.int .u32 (s.g : Int)) := (HB.out.cell 6).trans (mix_at_6 s r)
          have hf : wr.frozen? ⟨w.heap.size, 6, none⟩ = false := HB.out.frozen 6
          go_wp2_with (refine wpList_index rfl 80 (.tmp 95) (.tmp 96) rfl _ _ _ rfl rfl (idx_6 r _) ?_)
          go_roundw
          case rel =>
            refine ⟨7, by omega, rfl, Lib.hid ?_, Lib.hid ?_, Lib.hid ?_⟩
            · rw [← mix_set_6]; exact HB.out.set 6 _
            · exact HB0.out.far (p := ⟨w.heap.size, 6, none⟩) (by show w.heap.size + 1 + 1 ≠ w.heap.size; omega) _
            · exact HBB.out.setCell (p := ⟨w.heap.size, 6, none⟩) (Nat.le_refl _) _
          case measure => simp [intOf]
        · have hc : wr.cell? ⟨w.heap.size, 7, none⟩ = some (.int .u32 (s.h : Int)) := (HB.out.cell 7).trans (mix_at_7 s r)
          have hf : wr.frozen? ⟨w.heap.size, 7, none⟩ = false := HB.out.frozen 7
          go_wp2_with (refine wpList_index rfl 80 (.tmp 95) (.tmp 96) rfl _ _ _ rfl rfl (idx_7 r _) ?_)
          go_roundw
          case rel =>
            refine ⟨8, by omega, rfl, Lib.hid ?_, Lib.hid ?_, Lib.hid ?_⟩
            · rw [← mix_set_7]; exact HB.out.set 7 _
            · exact HB0.out.far (p := ⟨w.heap.size, 7, none⟩) (by show w.heap.size + 1 + 1 ≠ w.heap.size; omega) _
            · exact HBB.out.setCell (p := ⟨w.heap.size, 7, none⟩) (Nat.le_refl _) _
          case measure => simp [intOf]
        · have HX := Lib.hid (show mix s r 8 = block1 s l from (mix_8 s r).trans HBK.out.symm)
          rw [HX.out] at HB
          have e1 : (Tryd.prog.info? 80).map (·.size) = some (s8 (block1 s l)).size := by rw [s8_size]; kernel_rfl
          have HE := Lib.hid e1
          clear e1
          go_wp2_with (first
            | refine wpList_load_row rfl 80 (.tmp 2) rfl w.heap.size rfl 80 _ (0, 0) _ HB.out Tryd.underlying80 rfl HE.out ?_
            | refine wpList_store_row rfl 80 (.tmp 4) (.tmp 107) rfl (w.heap.size + 1 + 1) _ rfl rfl 80 _ HB0.out HE.out (z8_size _) (s8_one _) ?_)
          obtain ⟨w3, hw3⟩ : ∃ w3, w3 = wr.setRow (w.heap.size + 1 + 1) (s8 (block1 s l)) := ⟨_, rfl⟩
          have HB3 : Bk w3 (w.heap.size + 1 + 1) 80 (s8 (block1 s l)) := by rw [hw3]; exact HB0.out.setRow _
          have hbel3 : Below w.heap.size w w3 := by rw [hw3]; exact Below.setRow HBB.out _ (by omega) _
          rw [← hw3]
          refine bodyPost_ret (results_cell_row rfl _ _ (w.heap.size + 1 + 1) 80 _ (0, 0) _ rfl HB3 Tryd.underlying80 rfl HE.out) rfl ?_
          exact ⟨rfl, hbel3⟩
end Go.Proofs.YtinbegnojfpeiaaDoor
