/- wire.known, has, counts: their contracts. -/
import Derived.Test.YtimhjmeebahdaaaDoorWireM
import Derived.Test.YtimhjmeebahdaaaDoorIdx
import Derived.Test.YtimhjmeebahdaaaDoorRows
namespace Go.Proofs.YtimhjmeebahdaaaDoor
set_option linter.unusedVariables false
set_option linter.unusedSimpArgs false
open Go.RowKit

/-- What the table holds. -/
structure Gw (w : World) : Prop where
  size : 0 < w.heap.size
  part : ∀ k, k < 15 → w.cell? ⟨0, k, none⟩ = some (.int .i64 ((ptL.getD k 0 : Nat) : Int))
theorem Gw.below {w w' : World} {B : Nat} (h : Gw w) (hb : Below B w w') (hB : 0 < B) : Gw w' :=
  ⟨Nat.lt_of_lt_of_le h.size hb.size, fun k hk => (hb.cell (p := ⟨0, k, none⟩) hB).trans (h.part k hk)⟩

set_option maxHeartbeats 400000 in
theorem known_ok (k : Int) (w : World) : Calls Tryd.prog 17 #[.int .i64 k] w fun e w' => e = .returned (.bool (knownB k)) ∧ w = w' := by
  obtain ⟨v, hv⟩ : ∃ v, knownB k = v := ⟨_, rfl⟩
  rw [hv]
  unfold knownB at hv
  by_cases h1 : 1 ≤ k
  · by_cases h2 : k ≤ 14
    · have e : v = true := by rw [← hv]; simp; omega
      subst e
      clear hv
      go_enter Tryd.func17, Tryd.ntmps17
      go_wp2
      go_ret
      exact ⟨rfl, rfl⟩
    · have e : v = false := by rw [← hv]; simp; omega
      subst e
      clear hv
      go_enter Tryd.func17, Tryd.ntmps17
      go_wp2
      go_ret
      exact ⟨rfl, rfl⟩
  · have e : v = false := by rw [← hv]; simp; omega
    subst e
    clear hv
    go_enter Tryd.func17, Tryd.ntmps17
    go_wp2
    go_ret
    exact ⟨rfl, rfl⟩

set_option maxHeartbeats 400000 in
theorem counts_ok (n : Int) (w : World) : Calls Tryd.prog 25 #[.int .i64 n] w fun e w' => e = .returned (.bool (cntB n)) ∧ w = w' := by
  obtain ⟨v, hv⟩ : ∃ v, cntB n = v := ⟨_, rfl⟩
  rw [hv]
  unfold cntB at hv
  by_cases h1 : 0 ≤ n
  · by_cases h2 : n ≤ 1099511627776
    · have e : v = true := by rw [← hv]; simp; omega
      subst e
      clear hv
      go_enter Tryd.func25, Tryd.ntmps25
      go_wp2
      go_ret
      exact ⟨rfl, rfl⟩
    · have e : v = false := by rw [← hv]; simp; omega
      subst e
      clear hv
      go_enter Tryd.func25, Tryd.ntmps25
      go_wp2
      go_ret
      exact ⟨rfl, rfl⟩
  · have e : v = false := by rw [← hv]; simp; omega
    subst e
    clear hv
    go_enter Tryd.func25, Tryd.ntmps25
    go_wp2
    go_ret
    exact ⟨rfl, rfl⟩

theorem has_bits : ∀ k, k < 15 → ∀ j, j < 4 → (bits .and .i64 (((ptL.getD k 0 : Nat) : Int) / 2 ^ j) 1 == 1) = hasK k j := by decide +kernel

set_option maxHeartbeats 400000 in
theorem has_ok (k j : Nat) (w : World) (hG : Gw w) (hk : k < 15) (hj : j < 4) : Calls Tryd.prog 19 #[.int .i64 k, .int .i64 j] w fun e w' => e = .returned (.bool (hasK k j)) ∧ w = w' := by
  have c1 := hG.part k hk
  obtain ⟨p, hp⟩ : ∃ p, ptL.getD k 0 = p := ⟨_, rfl⟩
  rw [hp] at c1
  go_enter Tryd.func19, Tryd.ntmps19
  go_wp2
  go_ret
  exact ⟨by subst hp; rw [← has_bits k hk j hj]; rfl, rfl⟩

/-! ### What of a message is not zero -/

abbrev Mg.cells (x : Mg) : Array Value := #[.int .i64 x.k, .string x.a, .string x.b, .int .i64 x.n, .int .i64 x.m]
/-- The bits of the first places that are not zero. -/
def gvN (x : Mg) : Nat → Nat
  | 0 => 0
  | 1 => (!x.a.toList.isEmpty).toNat
  | 2 => (!x.a.toList.isEmpty).toNat + 2 * (!x.b.toList.isEmpty).toNat
  | 3 => (!x.a.toList.isEmpty).toNat + 2 * (!x.b.toList.isEmpty).toNat + 4 * (x.n != 0).toNat
  | _ => (!x.a.toList.isEmpty).toNat + 2 * (!x.b.toList.isEmpty).toNat + 4 * (x.n != 0).toNat + 8 * (x.m != 0).toNat

theorem gvN_lt (x : Mg) : ∀ j, j < 4 → gvN x j < 2 ^ j := by
  have h := fun c : Bool => (by cases c <;> decide : c.toNat ≤ 1)
  intro j hj
  have h0 := h (!x.a.toList.isEmpty)
  have h1 := h (!x.b.toList.isEmpty)
  have h2 := h (x.n != 0)
  match j, hj with
  | 0, _ => simp [gvN]
  | 1, _ => simp only [gvN]; omega
  | 2, _ => simp only [gvN]; omega
  | 3, _ => simp only [gvN]; omega
theorem or_bit : ∀ j : Nat, j < 4 → ∀ s : Nat, s < 2 ^ j → bits .or .i64 (s : Int) (2 ^ j) = ((s + 2 ^ j : Nat) : Int) := by decide +kernel

set_option maxHeartbeats 1000000 in
theorem given_ok (x : Mg) (w : World) : Calls Tryd.prog 24 #[.agg x.cells] w fun e w' => e = .returned (.int .i64 (gvN x 4 : Nat)) ∧ Below w.heap.size w w' := by
  obtain ⟨k, a, b, n, m⟩ := x
  have hb1 := Bk.new w 23 (Mg.cells ⟨k, a, b, n, m⟩)
  have c1 : (w.alloc (.cells #[.int .i64 k, .string a, .string b, .int .i64 n, .int .i64 m] 23)).cell? ⟨w.heap.size, 1, none⟩ = some (.string a) := by rw [hb1.cell]; rfl
  have c2 : (w.alloc (.cells #[.int .i64 k, .string a, .string b, .int .i64 n, .int .i64 m] 23)).cell? ⟨w.heap.size, 2, none⟩ = some (.string b) := by rw [hb1.cell]; rfl
  have c3 : (w.alloc (.cells #[.int .i64 k, .string a, .string b, .int .i64 n, .int .i64 m] 23)).cell? ⟨w.heap.size, 3, none⟩ = some (.int .i64 n) := by rw [hb1.cell]; rfl
  have c4 : (w.alloc (.cells #[.int .i64 k, .string a, .string b, .int .i64 n, .int .i64 m] 23)).cell? ⟨w.heap.size, 4, none⟩ = some (.int .i64 m) := by rw [hb1.cell]; rfl
  clear hb1
  go_enter Tryd.func24, Tryd.ntmps24
  go_wp2_with fail
  have hb0 : Below w.heap.size w (w.alloc (.cells #[.int .i64 k, .string a, .string b, .int .i64 n, .int .i64 m] 23)) := by go_grown
  generalize w.alloc (.cells #[.int .i64 k, .string a, .string b, .int .i64 n, .int .i64 m] 23) = w1 at hb0 ⊢
  go_loopw [3, 19] (fun v3 v19 wr => ∃ j : Nat, j ≤ 4 ∧ v19 = .int .i64 j ∧ v3 = .int .i64 (gvN ⟨k, a, b, n, m⟩ j : Nat) ∧ wr = w1) (fun _ v19 _ => 4 - (intOf v19).toNat)
  case atStart => exact ⟨0, by omega, rfl, rfl, rfl⟩
  case round =>
    obtain ⟨j, hj, rfl, rfl, rfl⟩ := hrel
    obtain rfl | rfl | rfl | rfl | rfl : j = 0 ∨ j = 1 ∨ j = 2 ∨ j = 3 ∨ j = 4 := by omega
    · obtain ⟨s, hs⟩ : ∃ s, gvN ⟨k, a, b, n, m⟩ 0 = s := ⟨_, rfl⟩
      have hs2 : s < 1 := by rw [← hs]; exact gvN_lt _ 0 (by omega)
      have hor := or_bit 0 (by omega) s hs2
      simp only [Nat.reducePow, Int.reducePow] at hor
      rw [hs]
      obtain ⟨z, hz⟩ : ∃ z, (!a.toList.isEmpty) = z := ⟨_, rfl⟩
      have HN := Lib.hid (show gvN ⟨k, a, b, n, m⟩ 1 = s + 1 * z.toNat by rw [← hs, ← hz]; first | (simp only [gvN]; done) | (simp only [gvN]; omega))
      rw [hz]
      clear hs
      cases z with
      | true =>
        go_wp2_with (refine wpList_index rfl 61 (.tmp 18) (.tmp 19) rfl _ _ (.bool true) rfl rfl (run_idx 61 4 4 _ 0 _ Tryd.underlying61 Tryd.isAgg4 Tryd.sizeOf4 (by omega) rfl _) ?_)
        go_roundw
        case rel => exact ⟨1, by omega, rfl, by rw [HN.out]; rfl, trivial⟩
        case measure => simp [intOf]
      | false =>
        go_wp2_with (refine wpList_index rfl 61 (.tmp 18) (.tmp 19) rfl _ _ (.bool false) rfl rfl (run_idx 61 4 4 _ 0 _ Tryd.underlying61 Tryd.isAgg4 Tryd.sizeOf4 (by omega) rfl _) ?_)
        go_roundw
        case rel => exact ⟨1, by omega, rfl, by rw [HN.out]; rfl, trivial⟩
        case measure => simp [intOf]
    · obtain ⟨s, hs⟩ : ∃ s, gvN ⟨k, a, b, n, m⟩ 1 = s := ⟨_, rfl⟩
      have hs2 : s < 2 := by rw [← hs]; exact gvN_lt _ 1 (by omega)
      have hor := or_bit 1 (by omega) s hs2
      simp only [Nat.reducePow, Int.reducePow] at hor
      rw [hs]
      obtain ⟨z, hz⟩ : ∃ z, (!b.toList.isEmpty) = z := ⟨_, rfl⟩
      have HN := Lib.hid (show gvN ⟨k, a, b, n, m⟩ 2 = s + 2 * z.toNat by rw [← hs, ← hz]; first | (simp only [gvN]; done) | (simp only [gvN]; omega))
      rw [hz]
      clear hs
      cases z with
      | true =>
        go_wp2_with (refine wpList_index rfl 61 (.tmp 18) (.tmp 19) rfl _ _ (.bool true) rfl rfl (run_idx 61 4 4 _ 1 _ Tryd.underlying61 Tryd.isAgg4 Tryd.sizeOf4 (by omega) rfl _) ?_)
        go_roundw
        case rel => exact ⟨2, by omega, rfl, by rw [HN.out]; rfl, trivial⟩
        case measure => simp [intOf]
      | false =>
        go_wp2_with (refine wpList_index rfl 61 (.tmp 18) (.tmp 19) rfl _ _ (.bool false) rfl rfl (run_idx 61 4 4 _ 1 _ Tryd.underlying61 Tryd.isAgg4 Tryd.sizeOf4 (by omega) rfl _) ?_)
        go_roundw
        case rel => exact ⟨2, by omega, rfl, by rw [HN.out]; rfl, trivial⟩
        case measure => simp [intOf]
    · obtain ⟨s, hs⟩ : ∃ s, gvN ⟨k, a, b, n, m⟩ 2 = s := ⟨_, rfl⟩
      have hs2 : s < 4 := by rw [← hs]; exact gvN_lt _ 2 (by omega)
      have hor := or_bit 2 (by omega) s hs2
      simp only [Nat.reducePow, Int.reducePow] at hor
      rw [hs]
      obtain ⟨z, hz⟩ : ∃ z, (n != 0) = z := ⟨_, rfl⟩
      have HN := Lib.hid (show gvN ⟨k, a, b, n, m⟩ 3 = s + 4 * z.toNat by rw [← hs, ← hz]; first | (simp only [gvN]; done) | (simp only [gvN]; omega))
      rw [hz]
      clear hs
      cases z with
      | true =>
        go_wp2_with (refine wpList_index rfl 61 (.tmp 18) (.tmp 19) rfl _ _ (.bool true) rfl rfl (run_idx 61 4 4 _ 2 _ Tryd.underlying61 Tryd.isAgg4 Tryd.sizeOf4 (by omega) rfl _) ?_)
        go_roundw
        case rel => exact ⟨3, by omega, rfl, by rw [HN.out]; rfl, trivial⟩
        case measure => simp [intOf]
      | false =>
        go_wp2_with (refine wpList_index rfl 61 (.tmp 18) (.tmp 19) rfl _ _ (.bool false) rfl rfl (run_idx 61 4 4 _ 2 _ Tryd.underlying61 Tryd.isAgg4 Tryd.sizeOf4 (by omega) rfl _) ?_)
        go_roundw
        case rel => exact ⟨3, by omega, rfl, by rw [HN.out]; rfl, trivial⟩
        case measure => simp [intOf]
    · obtain ⟨s, hs⟩ : ∃ s, gvN ⟨k, a, b, n, m⟩ 3 = s := ⟨_, rfl⟩
      have hs2 : s < 8 := by rw [← hs]; exact gvN_lt _ 3 (by omega)
      have hor := or_bit 3 (by omega) s hs2
      simp only [Nat.reducePow, Int.reducePow] at hor
      rw [hs]
      obtain ⟨z, hz⟩ : ∃ z, (m != 0) = z := ⟨_, rfl⟩
      have HN := Lib.hid (show gvN ⟨k, a, b, n, m⟩ 4 = s + 8 * z.toNat by rw [← hs, ← hz]; first | (simp only [gvN]; done) | (simp only [gvN]; omega))
      rw [hz]
      clear hs
      cases z with
      | true =>
        go_wp2_with (refine wpList_index rfl 61 (.tmp 18) (.tmp 19) rfl _ _ (.bool true) rfl rfl (run_idx 61 4 4 _ 3 _ Tryd.underlying61 Tryd.isAgg4 Tryd.sizeOf4 (by omega) rfl _) ?_)
        go_roundw
        case rel => exact ⟨4, by omega, rfl, by rw [HN.out]; rfl, trivial⟩
        case measure => simp [intOf]
      | false =>
        go_wp2_with (refine wpList_index rfl 61 (.tmp 18) (.tmp 19) rfl _ _ (.bool false) rfl rfl (run_idx 61 4 4 _ 3 _ Tryd.underlying61 Tryd.isAgg4 Tryd.sizeOf4 (by omega) rfl _) ?_)
        go_roundw
        case rel => exact ⟨4, by omega, rfl, by rw [HN.out]; rfl, trivial⟩
        case measure => simp [intOf]
    · go_wp2
      go_ret
      exact ⟨rfl, hb0⟩
end Go.Proofs.YtimhjmeebahdaaaDoor
