/- The document's own Same: whether two slices of slices are alike. (Written by gen_frsame.py.) -/
import Derived.Test.YtndamiocmdnenaaFrR2
import Derived.Test.YtndamiocmdnenaaConvR
import Derived.Deep.Cut
namespace Go.Proofs.Ytndamiocmdnenaa
set_option linter.unusedVariables false
set_option maxRecDepth 100000
set_option linter.unusedSimpArgs false
open Go.RowKit

theorem bs_ne {x y : List UInt8} (h : x ≠ y) : bs x ≠ bs y := fun e => h (by
  have := congrArg (fun b : ByteArray => b.data.toList) e
  simpa [bs] using this)
theorem bs_toList (x : List UInt8) : (bs x).toList = x := by rw [ByteArray.toList_eq]; simp [bs]
theorem all_alike {α : Type} (L M : List α) (hl : L.length = M.length) (h : ∀ j, j < L.length → L[j]? = M[j]?) : L = M := by
  apply List.ext_getElem?
  intro j
  rcases Nat.lt_or_ge j L.length with h1 | h1
  · exact h j h1
  · rw [List.getElem?_eq_none h1, List.getElem?_eq_none (by omega)]

set_option maxRecDepth 100000 in
set_option maxHeartbeats 4000000 in
theorem frsame_ok (A : Option Addr) (n c : Nat) (L : List (List UInt8)) (A' : Option Addr) (n' c' : Nat) (M : List (List UInt8)) (B B' : Nat) (w : World) (hl : L.length = n) (hl' : M.length = n') (hn : n ≤ c) (hc : c ≤ 9223372036854775807) (hn' : n' ≤ c') (hc' : c' ≤ 9223372036854775807) (hR : Rl w B A L) (hR' : Rl w B' A' M) :
    Calls Try.prog 31 #[.slice A n c, .slice A' n' c'] w fun e w' => e = .returned (.bool (decide (L = M))) ∧ Below w.heap.size w w' := by
  obtain ⟨V, hV⟩ : ∃ V, decide (L = M) = V := ⟨_, rfl⟩
  rw [hV]
  by_cases hnn : n = n'
  · subst hnn
    have HL := Lib.hid hl
    have HL' := Lib.hid hl'
    have HR := Lib.hid hR
    have HR' := Lib.hid hR'
    have HV := Lib.hid hV
    clear hl hl' hR hR' hV
    go_enter Try.func31, Try.ntmps31
    go_wp2_with fail
    go_loopw [5] (fun v5 wr => ∃ i : Nat, i ≤ n ∧ v5 = .int .i64 (i : Int) ∧ Hid (∀ j, j < i → L[j]? = M[j]?) ∧ Hid (Below w.heap.size w wr)) (fun v5 _ => n - (intOf v5).toNat)
    case atStart => exact ⟨0, by omega, rfl, Lib.hid (fun j h => by omega), Lib.hid (Below.refl _ _)⟩
    case round =>
      obtain ⟨i, hi, rfl, HJ, HB⟩ := hrel
      by_cases hi1 : i < n
      · have hi2 : (i : Int) < (n : Int) := by omega
        have hiL : i < L.length := by rw [HL.out]; exact hi1
        have hiM : i < M.length := by rw [HL'.out]; exact hi1
        obtain ⟨b1, o1, X1, y1, rfl, hb1, hc1, he1⟩ := (HR.out.below HB.out).at_ i hiL
        obtain ⟨b2, o2, X2, y2, rfl, hb2, hc2, he2⟩ := (HR'.out.below HB.out).at_ i hiM
        obtain ⟨x, hx⟩ : ∃ x, L[i] = x := ⟨_, rfl⟩
        obtain ⟨y, hy⟩ : ∃ y, M[i] = y := ⟨_, rfl⟩
        rw [hx] at hc1 he1
        rw [hy] at hc2 he2
        have HLX := Lib.hid (show L[i]? = some x by rw [List.getElem?_eq_getElem hiL, hx])
        have HLY := Lib.hid (show M[i]? = some y by rw [List.getElem?_eq_getElem hiM, hy])
        have HS := Lib.hid (show wr.drew.cell? ⟨b1, o1 + i, none⟩ = some (.slice X1 x.length y1) ∧ wr.drew.cell? ⟨b2, o2 + i, none⟩ = some (.slice X2 y.length y2) ∧ Rb wr.drew wr.heap.size X1 x ∧ Rb wr.drew wr.heap.size X2 y ∧ Below w.heap.size w wr.drew from ⟨hc1, hc2, he1.rb, he2.rb, HB.out.drew⟩)
        clear hc1 hc2 he1 he2 hx hy
        by_cases hxy : x = y
        · subst hxy
          have HJ2 := Lib.hid (show ∀ j, j < i + 1 → L[j]? = M[j]? from fun j hj => by
            by_cases e : j = i
            · subst e; rw [HLX.out, HLY.out]
            · exact HJ.out j (by omega))
          have hxx : ((bs x).toList == (bs x).toList) = true := beq_self_eq_true _
          clear hiL hiM
          go_upto_region 6 with (fail)
          try simp only [List.cons_append, List.nil_append]
          refine wp_region_held_drew (S := fun u => u.cell? ⟨b1, o1 + i, none⟩ = some (.slice X1 x.length y1) ∧ u.cell? ⟨b2, o2 + i, none⟩ = some (.slice X2 x.length y2) ∧ Rb u wr.heap.size X1 x ∧ Rb u wr.heap.size X2 x ∧ Below w.heap.size w u) (by kernel_rfl) (HS.out) (fun hHeld => ?_)
          refine take_at (some 17) (i := 0) (v := ?_) rfl rfl (by kernel_rfl) (by kernel_rfl) (by kernel_rfl) (fun _ _ _ h => h) (Or.inl ⟨by kernel_rfl, ?_⟩) hHeld ?_
          rotate_left
          · intro wz hSw; obtain ⟨k1, k2, _, _, _⟩ := hSw; go_simp; try (with_reducible rfl)
          try simp only [Act.put, List.setIfInBounds_toArray, List.set_cons_zero, List.set_cons_succ, List.getElem_toArray, List.getElem_cons_succ, List.getElem_cons_zero]
          refine take_at (some 18) (i := 1) (v := ?_) rfl rfl (by kernel_rfl) (by kernel_rfl) (by kernel_rfl) (fun _ _ _ h => h) (Or.inl ⟨by kernel_rfl, ?_⟩) hHeld ?_
          rotate_left
          · intro wz hSw; obtain ⟨k1, k2, _, _, _⟩ := hSw; go_simp; try (with_reducible rfl)
          try simp only [Act.put, List.setIfInBounds_toArray, List.set_cons_zero, List.set_cons_succ, List.getElem_toArray, List.getElem_cons_succ, List.getElem_cons_zero]
          refine take_at (some 19) (i := 2) (v := ?_) rfl rfl (by kernel_rfl) (by kernel_rfl) (by kernel_rfl) (fun _ _ _ h => h) (Or.inl ⟨by kernel_rfl, ?_⟩) hHeld ?_
          rotate_left
          · intro wz hSw; obtain ⟨k1, k2, _, _, _⟩ := hSw; go_simp; try (with_reducible rfl)
          try simp only [Act.put, List.setIfInBounds_toArray, List.set_cons_zero, List.set_cons_succ, List.getElem_toArray, List.getElem_cons_succ, List.getElem_cons_zero]
          refine take_at (some 20) (i := 3) (v := ?_) rfl rfl (by kernel_rfl) (by kernel_rfl) (by kernel_rfl) (fun _ _ _ h => h) (Or.inl ⟨by kernel_rfl, ?_⟩) hHeld ?_
          rotate_left
          · intro wz hSw; obtain ⟨k1, k2, _, _, _⟩ := hSw; go_simp; try (with_reducible rfl)
          try simp only [Act.put, List.setIfInBounds_toArray, List.set_cons_zero, List.set_cons_succ, List.getElem_toArray, List.getElem_cons_succ, List.getElem_cons_zero]
          refine take_at (some 21) (i := 4) rfl rfl (by kernel_rfl) (by kernel_rfl) (by kernel_rfl) (fun _ _ _ h => h) (yieldsIf_conv (by kernel_rfl) 28 5 9 (.tmp 20) rfl X1 x.length y1 x rfl rfl (fun w h => h.2.2.1) Try.underlying28 Try.underlying5 Try.underlying9) hHeld ?_
          try simp only [Act.put, List.setIfInBounds_toArray, List.set_cons_zero, List.set_cons_succ, List.getElem_toArray, List.getElem_cons_succ, List.getElem_cons_zero]
          refine take_at (some 22) (i := 5) (v := ?_) rfl rfl (by kernel_rfl) (by kernel_rfl) (by kernel_rfl) (fun _ _ _ h => h) (Or.inl ⟨by kernel_rfl, ?_⟩) hHeld ?_
          rotate_left
          · intro wz hSw; obtain ⟨k1, k2, _, _, _⟩ := hSw; go_simp; try (with_reducible rfl)
          try simp only [Act.put, List.setIfInBounds_toArray, List.set_cons_zero, List.set_cons_succ, List.getElem_toArray, List.getElem_cons_succ, List.getElem_cons_zero]
          refine take_at (some 23) (i := 6) (v := ?_) rfl rfl (by kernel_rfl) (by kernel_rfl) (by kernel_rfl) (fun _ _ _ h => h) (Or.inl ⟨by kernel_rfl, ?_⟩) hHeld ?_
          rotate_left
          · intro wz hSw; obtain ⟨k1, k2, _, _, _⟩ := hSw; go_simp; try (with_reducible rfl)
          try simp only [Act.put, List.setIfInBounds_toArray, List.set_cons_zero, List.set_cons_succ, List.getElem_toArray, List.getElem_cons_succ, List.getElem_cons_zero]
          refine take_at (some 24) (i := 7) (v := ?_) rfl rfl (by kernel_rfl) (by kernel_rfl) (by kernel_rfl) (fun _ _ _ h => h) (Or.inl ⟨by kernel_rfl, ?_⟩) hHeld ?_
          rotate_left
          · intro wz hSw; obtain ⟨k1, k2, _, _, _⟩ := hSw; go_simp; try (with_reducible rfl)
          try simp only [Act.put, List.setIfInBounds_toArray, List.set_cons_zero, List.set_cons_succ, List.getElem_toArray, List.getElem_cons_succ, List.getElem_cons_zero]
          refine take_at (some 25) (i := 8) (v := ?_) rfl rfl (by kernel_rfl) (by kernel_rfl) (by kernel_rfl) (fun _ _ _ h => h) (Or.inl ⟨by kernel_rfl, ?_⟩) hHeld ?_
          rotate_left
          · intro wz hSw; obtain ⟨k1, k2, _, _, _⟩ := hSw; go_simp; try (with_reducible rfl)
          try simp only [Act.put, List.setIfInBounds_toArray, List.set_cons_zero, List.set_cons_succ, List.getElem_toArray, List.getElem_cons_succ, List.getElem_cons_zero]
          refine take_at (some 26) (i := 9) rfl rfl (by kernel_rfl) (by kernel_rfl) (by kernel_rfl) (fun _ _ _ h => h) (yieldsIf_conv (by kernel_rfl) 28 5 9 (.tmp 25) rfl X2 x.length y2 x rfl rfl (fun w h => h.2.2.2.1) Try.underlying28 Try.underlying5 Try.underlying9) hHeld ?_
          try simp only [Act.put, List.setIfInBounds_toArray, List.set_cons_zero, List.set_cons_succ, List.getElem_toArray, List.getElem_cons_succ, List.getElem_cons_zero]
          refine take_at (some 27) (i := 10) (v := ?_) rfl rfl (by kernel_rfl) (by kernel_rfl) (by kernel_rfl) (fun _ _ _ h => h) (Or.inl ⟨by kernel_rfl, ?_⟩) hHeld ?_
          rotate_left
          · intro wz hSw; obtain ⟨k1, k2, _, _, _⟩ := hSw; go_simp; try (with_reducible rfl)
          try simp only [Act.put, List.setIfInBounds_toArray, List.set_cons_zero, List.set_cons_succ, List.getElem_toArray, List.getElem_cons_succ, List.getElem_cons_zero]
          refine wpAnyH_done (by kernel_rfl) ?_ _
          have HBD := Lib.hid hHeld.2.2.2.2
          clear hHeld
          go_wp2_with fail
          go_roundw
          case rel => exact ⟨i + 1, by omega, by go_num, HJ2, HBD⟩
          case measure => simp [intOf]; omega
        · have hxx : ((bs x).toList == (bs y).toList) = false := by rw [beq_eq_false_iff_ne, bs_toList, bs_toList]; exact hxy
          have HF := Lib.hid (show V = false by
            rw [← HV.out]
            refine decide_eq_false (fun e => hxy ?_)
            have h1 := HLX.out
            have h2 := HLY.out
            rw [e, h2] at h1
            exact (Option.some.inj h1).symm)
          clear hiL hiM hxy
          go_upto_region 6 with (fail)
          try simp only [List.cons_append, List.nil_append]
          refine wp_region_held_drew (S := fun u => u.cell? ⟨b1, o1 + i, none⟩ = some (.slice X1 x.length y1) ∧ u.cell? ⟨b2, o2 + i, none⟩ = some (.slice X2 y.length y2) ∧ Rb u wr.heap.size X1 x ∧ Rb u wr.heap.size X2 y ∧ Below w.heap.size w u) (by kernel_rfl) (HS.out) (fun hHeld => ?_)
          refine take_at (some 17) (i := 0) (v := ?_) rfl rfl (by kernel_rfl) (by kernel_rfl) (by kernel_rfl) (fun _ _ _ h => h) (Or.inl ⟨by kernel_rfl, ?_⟩) hHeld ?_
          rotate_left
          · intro wz hSw; obtain ⟨k1, k2, _, _, _⟩ := hSw; go_simp; try (with_reducible rfl)
          try simp only [Act.put, List.setIfInBounds_toArray, List.set_cons_zero, List.set_cons_succ, List.getElem_toArray, List.getElem_cons_succ, List.getElem_cons_zero]
          refine take_at (some 18) (i := 1) (v := ?_) rfl rfl (by kernel_rfl) (by kernel_rfl) (by kernel_rfl) (fun _ _ _ h => h) (Or.inl ⟨by kernel_rfl, ?_⟩) hHeld ?_
          rotate_left
          · intro wz hSw; obtain ⟨k1, k2, _, _, _⟩ := hSw; go_simp; try (with_reducible rfl)
          try simp only [Act.put, List.setIfInBounds_toArray, List.set_cons_zero, List.set_cons_succ, List.getElem_toArray, List.getElem_cons_succ, List.getElem_cons_zero]
          refine take_at (some 19) (i := 2) (v := ?_) rfl rfl (by kernel_rfl) (by kernel_rfl) (by kernel_rfl) (fun _ _ _ h => h) (Or.inl ⟨by kernel_rfl, ?_⟩) hHeld ?_
          rotate_left
          · intro wz hSw; obtain ⟨k1, k2, _, _, _⟩ := hSw; go_simp; try (with_reducible rfl)
          try simp only [Act.put, List.setIfInBounds_toArray, List.set_cons_zero, List.set_cons_succ, List.getElem_toArray, List.getElem_cons_succ, List.getElem_cons_zero]
          refine take_at (some 20) (i := 3) (v := ?_) rfl rfl (by kernel_rfl) (by kernel_rfl) (by kernel_rfl) (fun _ _ _ h => h) (Or.inl ⟨by kernel_rfl, ?_⟩) hHeld ?_
          rotate_left
          · intro wz hSw; obtain ⟨k1, k2, _, _, _⟩ := hSw; go_simp; try (with_reducible rfl)
          try simp only [Act.put, List.setIfInBounds_toArray, List.set_cons_zero, List.set_cons_succ, List.getElem_toArray, List.getElem_cons_succ, List.getElem_cons_zero]
          refine take_at (some 21) (i := 4) rfl rfl (by kernel_rfl) (by kernel_rfl) (by kernel_rfl) (fun _ _ _ h => h) (yieldsIf_conv (by kernel_rfl) 28 5 9 (.tmp 20) rfl X1 x.length y1 x rfl rfl (fun w h => h.2.2.1) Try.underlying28 Try.underlying5 Try.underlying9) hHeld ?_
          try simp only [Act.put, List.setIfInBounds_toArray, List.set_cons_zero, List.set_cons_succ, List.getElem_toArray, List.getElem_cons_succ, List.getElem_cons_zero]
          refine take_at (some 22) (i := 5) (v := ?_) rfl rfl (by kernel_rfl) (by kernel_rfl) (by kernel_rfl) (fun _ _ _ h => h) (Or.inl ⟨by kernel_rfl, ?_⟩) hHeld ?_
          rotate_left
          · intro wz hSw; obtain ⟨k1, k2, _, _, _⟩ := hSw; go_simp; try (with_reducible rfl)
          try simp only [Act.put, List.setIfInBounds_toArray, List.set_cons_zero, List.set_cons_succ, List.getElem_toArray, List.getElem_cons_succ, List.getElem_cons_zero]
          refine take_at (some 23) (i := 6) (v := ?_) rfl rfl (by kernel_rfl) (by kernel_rfl) (by kernel_rfl) (fun _ _ _ h => h) (Or.inl ⟨by kernel_rfl, ?_⟩) hHeld ?_
          rotate_left
          · intro wz hSw; obtain ⟨k1, k2, _, _, _⟩ := hSw; go_simp; try (with_reducible rfl)
          try simp only [Act.put, List.setIfInBounds_toArray, List.set_cons_zero, List.set_cons_succ, List.getElem_toArray, List.getElem_cons_succ, List.getElem_cons_zero]
          refine take_at (some 24) (i := 7) (v := ?_) rfl rfl (by kernel_rfl) (by kernel_rfl) (by kernel_rfl) (fun _ _ _ h => h) (Or.inl ⟨by kernel_rfl, ?_⟩) hHeld ?_
          rotate_left
          · intro wz hSw; obtain ⟨k1, k2, _, _, _⟩ := hSw; go_simp; try (with_reducible rfl)
          try simp only [Act.put, List.setIfInBounds_toArray, List.set_cons_zero, List.set_cons_succ, List.getElem_toArray, List.getElem_cons_succ, List.getElem_cons_zero]
          refine take_at (some 25) (i := 8) (v := ?_) rfl rfl (by kernel_rfl) (by kernel_rfl) (by kernel_rfl) (fun _ _ _ h => h) (Or.inl ⟨by kernel_rfl, ?_⟩) hHeld ?_
          rotate_left
          · intro wz hSw; obtain ⟨k1, k2, _, _, _⟩ := hSw; go_simp; try (with_reducible rfl)
          try simp only [Act.put, List.setIfInBounds_toArray, List.set_cons_zero, List.set_cons_succ, List.getElem_toArray, List.getElem_cons_succ, List.getElem_cons_zero]
          refine take_at (some 26) (i := 9) rfl rfl (by kernel_rfl) (by kernel_rfl) (by kernel_rfl) (fun _ _ _ h => h) (yieldsIf_conv (by kernel_rfl) 28 5 9 (.tmp 25) rfl X2 y.length y2 y rfl rfl (fun w h => h.2.2.2.1) Try.underlying28 Try.underlying5 Try.underlying9) hHeld ?_
          try simp only [Act.put, List.setIfInBounds_toArray, List.set_cons_zero, List.set_cons_succ, List.getElem_toArray, List.getElem_cons_succ, List.getElem_cons_zero]
          refine take_at (some 27) (i := 10) (v := ?_) rfl rfl (by kernel_rfl) (by kernel_rfl) (by kernel_rfl) (fun _ _ _ h => h) (Or.inl ⟨by kernel_rfl, ?_⟩) hHeld ?_
          rotate_left
          · intro wz hSw; obtain ⟨k1, k2, _, _, _⟩ := hSw; go_simp; try (with_reducible rfl)
          try simp only [Act.put, List.setIfInBounds_toArray, List.set_cons_zero, List.set_cons_succ, List.getElem_toArray, List.getElem_cons_succ, List.getElem_cons_zero]
          refine wpAnyH_done (by kernel_rfl) ?_ _
          have HBD := Lib.hid hHeld.2.2.2.2
          clear hHeld
          go_wp2_with fail
          go_ret
          rw [HF.out]
          exact ⟨rfl, HBD.out⟩
      · have hi3 : i = n := by omega
        have hi2 : ¬ ((i : Int) < (n : Int)) := by omega
        have HT := Lib.hid (show V = true by
          rw [← HV.out]
          exact decide_eq_true (all_alike L M (by rw [HL.out, HL'.out]) (fun j hj => HJ.out j (by rw [HL.out] at hj; omega))))
        clear hi3
        go_wp2_with fail
        go_ret
        rw [HT.out]
        exact ⟨rfl, HB.out⟩
  · have h2 : ((n : Int) == (n' : Int)) = false := by rw [beq_eq_false_iff_ne]; omega
    have HF := Lib.hid (show V = false by
      rw [← hV]
      exact decide_eq_false (fun e => hnn (by rw [← hl, ← hl', e])))
    clear hV hnn hR hR' hl hl'
    go_enter Try.func31, Try.ntmps31
    go_wp2_with fail
    go_ret
    rw [HF.out]
    exact ⟨rfl, Below.refl _ _⟩
end Go.Proofs.Ytndamiocmdnenaa
