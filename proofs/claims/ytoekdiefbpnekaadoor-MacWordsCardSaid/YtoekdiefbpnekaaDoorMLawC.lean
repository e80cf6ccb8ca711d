/- The walk of MacWords. (Written by gen_mwords.py.) -/
import Derived.Test.YtoekdiefbpnekaaDoorMHead
import Derived.Test.YtoekdiefbpnekaaDoorGreat
import Derived.Test.YtoekdiefbpnekaaDoorAppOp
namespace Go.Proofs.YtoekdiefbpnekaaDoor
set_option linter.unusedVariables false
set_option linter.unusedSimpArgs false
open Go.RowKit

/-- A text's bytes behind its length, cut to a byte. -/
def wB (s : ByteArray) : List UInt8 := UInt8.ofNat s.size :: s.data.toList
def wsB (ws : List ByteArray) : List UInt8 := (ws.map wB).flatten
theorem wsB_take (ws : List ByteArray) (i : Nat) (h : i < ws.length) : wsB (ws.take (i + 1)) = wsB (ws.take i) ++ ([UInt8.ofNat ws[i].size] ++ ws[i].data.toList) := by
  unfold wsB
  rw [List.take_add_one, List.getElem?_eq_getElem h, List.map_append, List.flatten_append]
  simp [wB]
theorem wsB_len (ws : List ByteArray) (h : gs ws ws.length < 9000) (i : Nat) (hi : i ≤ ws.length) : (wsB (ws.take i)).length ≤ 9000 := by
  have hsm := (gs_small ws h).2.1
  have ht : ∀ i, i ≤ ws.length → (wsB (ws.take i)).length + ws.length ≤ gs ws i + i := by
    intro i
    induction i with
    | zero => intro _; simp [wsB, gs]
    | succ i ih =>
      intro hi
      have hi2 : i < ws.length := by omega
      have h1 := ih (by omega)
      have h2 := hsm ws[i] (List.getElem_mem hi2)
      have h3 : ws[i].data.toList.length = ws[i].size := rfl
      rw [wsB_take ws i hi2, List.length_append, List.length_append, List.length_singleton, h3, gs, List.getD, List.getElem?_eq_getElem hi2, Option.getD_some]
      omega
  have h1 := ht i hi
  have h2 := gs_mono ws i (ws.length - i)
  rw [show i + (ws.length - i) = ws.length by omega] at h2
  omega
theorem wsB_short (ws : List ByteArray) (h : ∀ x ∈ ws, x.size ≤ 255) : wsB ws = textsB ws := by
  unfold wsB textsB
  congr 1
  apply List.map_congr_left
  intro x hx
  unfold wB textB
  rw [if_pos (h x hx)]
/-- Was one of the first i too long? -/
def Lng (ws : List ByteArray) (i : Nat) (v : Bool) : Prop := v = true ↔ ∃ j, ∃ hj : j < ws.length, j < i ∧ 255 < ws[j].size
theorem Lng.zero (ws : List ByteArray) : Lng ws 0 false := ⟨(fun h => by cases h), (fun ⟨j, _, h, _⟩ => by omega)⟩
theorem Lng.stay {ws : List ByteArray} {i : Nat} {v : Bool} (h : Lng ws i v) (hi : i < ws.length) (hs : v = true ∨ ws[i].size ≤ 255) : Lng ws (i + 1) v := by
  unfold Lng at h ⊢
  constructor
  · intro h1
    obtain ⟨j, hj, h2, h3⟩ := h.1 h1
    exact ⟨j, hj, by omega, h3⟩
  · rintro ⟨j, hj, h2, h3⟩
    rcases hs with h4 | h4
    · exact h4
    · by_cases e : j = i
      · subst e; omega
      · exact h.2 ⟨j, hj, by omega, h3⟩
theorem Lng.turn {ws : List ByteArray} {i : Nat} (hi : i < ws.length) (hs : 255 < ws[i].size) : Lng ws (i + 1) true := ⟨fun _ => ⟨i, hi, by omega, hs⟩, fun _ => rfl⟩

set_option maxRecDepth 100000 in
set_option maxHeartbeats 8000000 in
theorem walk_MacWords (A : Option Addr) (l : List UInt8) (n c : Nat) (A2 : Option Addr) (ws : List ByteArray) (n2 c2 : Nat) (W : World) (w0 : InB W A l n c) (w1 : InS W A2 ws n2 c2) (hG : Gl W) :
    Calls Tryd.prog 8 #[.slice A n c, .slice A2 n2 c2] W fun e w' => e = .returned (.bool true) ∧ Below W.heap.size W w' := by
  have HI := Lib.hid w0
  have HSI := Lib.hid w1
  have HG := Lib.hid hG
  have HC2 := Lib.hid (show n2 ≤ 9223372036854775807 by have h1 := w1.cap; have h2 := w1.max; unfold maxLen at h2; omega)
  clear w0 w1 hG
  by_cases g1 : 9000 < n
  · go_enter Tryd.func8, Tryd.ntmps8
    go_wp2_with fail
    refine (mhead_ok _ HG.out).mono ?_
    rintro e w1 ⟨rfl, hb1⟩
    go_wp2_with fail
    go_ret
    exact ⟨rfl, hb1⟩
  have HN := Lib.hid (show n ≤ 1099511627776 by omega)
  have HGW := Lib.hid (show ∀ u, Below W.heap.size W u → Gl u from fun u hu => HG.out.below hu HG.out.size)
  have HRW := Lib.hid (show ∀ u, Below W.heap.size W u → Rb u u.heap.size A l from fun u hu => (HI.out.rb.below hu (Nat.le_refl _)).more hu.size)
  have HRWS := Lib.hid (show ∀ u, Below W.heap.size W u → Rs u u.heap.size A2 ws from fun u hu => (HSI.out.rs.below hu (Nat.le_refl _)).more hu.size)
  go_enter Tryd.func8, Tryd.ntmps8
  go_wp2_with fail
  refine (mhead_ok _ HG.out).mono ?_
  rintro e w1 ⟨rfl, hb1⟩
  have HB1 := Lib.hid hb1
  clear hb1
  go_wp2_with fail
  refine (great_ok A2 n2 c2 ws _ HSI.out.len HC2.out (HRWS.out _ HB1.out)).mono ?_
  rintro e w2 ⟨v, rfl, hv, hb2⟩
  have HB2 := Lib.hid (HB1.out.trans (hb2.mono HB1.out.size))
  clear hb2
  cases v with
  | true =>
    go_wp2_with fail
    go_ret
    exact ⟨rfl, HB2.out⟩
  | false =>
  have HGS := Lib.hid (hv rfl)
  have HSM := Lib.hid (gs_small ws (hv rfl))
  clear hv
  have HSN := Lib.hid (show n2 ≤ 1099511627776 by have h1 := HSM.out.1; rw [HSI.out.len] at h1; omega)
  have hn2 : n2 < 9000 := by have h1 := HSM.out.1; rw [HSI.out.len] at h1; exact h1
  have HSS := Lib.hid (show ∀ x ∈ ws, x.size ≤ 140737488355328 from fun x hx => by have := HSM.out.2.1 x hx; omega)
  have HTX := Lib.hid (show (textsB ws).length ≤ 549755813888 by have := HSM.out.2.2; omega)
  go_wp2_with fail
  go_loopw [8, 7, 6] (fun v8 v7 v6 wr => ∃ (i : Nat) (v : Bool) (A3 : Option Addr) (c3 L : Nat), i ≤ n2 ∧ v8 = .int .i64 i ∧ v7 = .bool v ∧ v6 = .slice A3 L c3 ∧ Hid ((wsB (ws.take i)).length = L) ∧ Hid (OB wr W.heap.size 5 A3 c3 (wsB (ws.take i))) ∧ Hid (Lng ws i v) ∧ Hid (Below W.heap.size W wr)) (fun v8 _ _ _ => n2 - (intOf v8).toNat)
  case atStart => exact ⟨0, false, none, 0, 0, by omega, rfl, rfl, rfl, Lib.hid rfl, Lib.hid (OB.nil _ _ _), Lib.hid (Lng.zero _), HB2⟩
  case round =>
    obtain ⟨i, v, A3, c3, L, hi, rfl, rfl, rfl, HT, HO, HV, HB⟩ := hrel
    clear HB2 HB1
    by_cases hi1 : i < n2
    · have hi2 : (i : Int) < (n2 : Int) := by omega
      have hiw : i < ws.length := by rw [HSI.out.len]; exact hi1
      obtain ⟨b, o, rfl, hbW, hcW⟩ : ∃ b o, A2 = some ⟨b, o, none⟩ ∧ b < W.heap.size ∧ W.cell? ⟨b, o + i, none⟩ = some (.string ws[i]) := by
        rcases HSI.out.rs with h | ⟨b, o, e, hb, hc⟩
        · subst h; simp at hiw
        · exact ⟨b, o, e, hb, hc i hiw⟩
      have HCL := Lib.hid (show ∀ u, Below W.heap.size W u → u.cell? ⟨b, o + i, none⟩ = some (.string ws[i]) from fun u hu => (hu.cell (p := ⟨b, o + i, none⟩) hbW).trans hcW)
      have HT2 := Lib.hid (wsB_take ws i hiw)
      have HS9 := Lib.hid (HSM.out.2.1 ws[i] (List.getElem_mem hiw))
      have HLB := Lib.hid (show (wsB (ws.take i)).length + 9001 ≤ 140737488355328 by have := wsB_len ws HGS.out i (by omega); omega)
      have HST := Lib.hid (fun h => HV.out.stay hiw h)
      have HTN := Lib.hid (fun h => Lng.turn (ws := ws) hiw h)
      obtain ⟨s, hs⟩ : ∃ s, s = ws[i] := ⟨_, rfl⟩
      rw [← hs] at HCL HT2 HS9 HST HTN
      have HE8 := Lib.hid (show (s.size : Int) % 256 = ((UInt8.ofNat s.size).toNat : Int) by rw [UInt8.toNat_ofNat']; omega)
      have hs9 := HS9.out
      have HCW := Lib.hid (HCL.out _ HB.out)
      clear hs hiw hbW hcW HV
      cases v with
      | true =>
        go_wp2_with fail
        try simp only [List.cons_append, List.nil_append]
        refine wp_region_held_drew (S := fun u => Below W.heap.size W u) (by kernel_rfl) (HB.out.drew) (fun hHeld => ?_)
        refine take_at (some 35) (i := 0) (v := ?_) rfl rfl (by kernel_rfl) (by kernel_rfl) (by kernel_rfl) (fun _ _ _ h => h) (Or.inl ⟨by kernel_rfl, ?_⟩) hHeld ?_
        rotate_left
        · intro wz hSw; go_simp; try (with_reducible rfl)
        try simp only [Act.put, List.setIfInBounds_toArray, List.set_cons_zero, List.set_cons_succ, List.getElem_toArray, List.getElem_cons_succ, List.getElem_cons_zero]
        refine take_at (some 36) (i := 1) (v := ?_) rfl rfl (by kernel_rfl) (by kernel_rfl) (by kernel_rfl) (fun _ _ _ h => h) (Or.inl ⟨by kernel_rfl, ?_⟩) hHeld ?_
        rotate_left
        · intro wz hSw; go_simp; try (with_reducible rfl)
        try simp only [Act.put, List.setIfInBounds_toArray, List.set_cons_zero, List.set_cons_succ, List.getElem_toArray, List.getElem_cons_succ, List.getElem_cons_zero]
        refine take_at (some 37) (i := 2) (v := ?_) rfl rfl (by kernel_rfl) (by kernel_rfl) (by kernel_rfl) (fun _ _ _ h => h) (Or.inl ⟨by kernel_rfl, ?_⟩) hHeld ?_
        rotate_left
        · intro wz hSw; go_simp; try (with_reducible rfl)
        try simp only [Act.put, List.setIfInBounds_toArray, List.set_cons_zero, List.set_cons_succ, List.getElem_toArray, List.getElem_cons_succ, List.getElem_cons_zero]
        refine take_at (some 38) (i := 3) (v := ?_) rfl rfl (by kernel_rfl) (by kernel_rfl) (by kernel_rfl) (fun _ _ _ h => h) (Or.inl ⟨by kernel_rfl, ?_⟩) hHeld ?_
        rotate_left
        · intro wz hSw; go_simp; try (with_reducible rfl)
        try simp only [Act.put, List.setIfInBounds_toArray, List.set_cons_zero, List.set_cons_succ, List.getElem_toArray, List.getElem_cons_succ, List.getElem_cons_zero]
        refine take_at (some 39) (i := 4) (v := ?_) rfl rfl (by kernel_rfl) (by kernel_rfl) (by kernel_rfl) (fun _ _ _ h => h) (Or.inl ⟨by kernel_rfl, ?_⟩) hHeld ?_
        rotate_left
        · intro wz hSw; have hcv := HCL.out wz hSw; go_simp; try (with_reducible rfl)
        try simp only [Act.put, List.setIfInBounds_toArray, List.set_cons_zero, List.set_cons_succ, List.getElem_toArray, List.getElem_cons_succ, List.getElem_cons_zero]
        refine take_at (some 40) (i := 5) (v := ?_) rfl rfl (by kernel_rfl) (by kernel_rfl) (by kernel_rfl) (fun _ _ _ h => h) (Or.inl ⟨by kernel_rfl, ?_⟩) hHeld ?_
        rotate_left
        · intro wz hSw; go_simp; try (with_reducible rfl)
        try simp only [Act.put, List.setIfInBounds_toArray, List.set_cons_zero, List.set_cons_succ, List.getElem_toArray, List.getElem_cons_succ, List.getElem_cons_zero]
        refine take_at (some 41) (i := 6) (v := ?_) rfl rfl (by kernel_rfl) (by kernel_rfl) (by kernel_rfl) (fun _ _ _ h => h) (Or.inl ⟨by kernel_rfl, ?_⟩) hHeld ?_
        rotate_left
        · intro wz hSw; go_simp; try (with_reducible rfl)
        try simp only [Act.put, List.setIfInBounds_toArray, List.set_cons_zero, List.set_cons_succ, List.getElem_toArray, List.getElem_cons_succ, List.getElem_cons_zero]
        refine take_at (some 44) (i := 9) (v := ?_) rfl rfl (by kernel_rfl) (by kernel_rfl) (by kernel_rfl) (fun _ _ _ h => h) (Or.inl ⟨by kernel_rfl, ?_⟩) hHeld ?_
        rotate_left
        · intro wz hSw; go_simp; try (with_reducible rfl)
        try simp only [Act.put, List.setIfInBounds_toArray, List.set_cons_zero, List.set_cons_succ, List.getElem_toArray, List.getElem_cons_succ, List.getElem_cons_zero]
        refine take_at (some 45) (i := 10) (v := ?_) rfl rfl (by kernel_rfl) (by kernel_rfl) (by kernel_rfl) (fun _ _ _ h => h) (Or.inl ⟨by kernel_rfl, ?_⟩) hHeld ?_
        rotate_left
        · intro wz hSw; go_simp; try (with_reducible rfl)
        try simp only [Act.put, List.setIfInBounds_toArray, List.set_cons_zero, List.set_cons_succ, List.getElem_toArray, List.getElem_cons_succ, List.getElem_cons_zero]
        refine take_at (some 46) (i := 11) (v := ?_) rfl rfl (by kernel_rfl) (by kernel_rfl) (by kernel_rfl) (fun _ _ _ h => h) (Or.inl ⟨by kernel_rfl, ?_⟩) hHeld ?_
        rotate_left
        · intro wz hSw; go_simp; try (with_reducible rfl)
        try simp only [Act.put, List.setIfInBounds_toArray, List.set_cons_zero, List.set_cons_succ, List.getElem_toArray, List.getElem_cons_succ, List.getElem_cons_zero]
        refine take_at (some 47) (i := 12) (v := ?_) rfl rfl (by kernel_rfl) (by kernel_rfl) (by kernel_rfl) (fun _ _ _ h => h) (Or.inl ⟨by kernel_rfl, ?_⟩) hHeld ?_
        rotate_left
        · intro wz hSw; have hcv := HCL.out wz hSw; go_simp; try (with_reducible rfl)
        try simp only [Act.put, List.setIfInBounds_toArray, List.set_cons_zero, List.set_cons_succ, List.getElem_toArray, List.getElem_cons_succ, List.getElem_cons_zero]
        refine wpAnyH_ready (rs := [7]) (by kernel_rfl) (by simp) (AllReadyH.cons rfl (fun K hK => ?_) AllReadyH.nil)
        rw [if_pos (by kernel_rfl)]
        go_simp
        refine hK.out _ _ (HB.out.drew.alloc HB.out.size _) (fun hHeld => ?_)
        try simp only [Act.put, List.setIfInBounds_toArray, List.set_cons_zero, List.set_cons_succ, List.getElem_toArray, List.getElem_cons_succ, List.getElem_cons_zero]
        refine wpAnyH_ready (rs := [8]) (by kernel_rfl) (by simp) (AllReadyH.cons rfl (fun K hK => ?_) AllReadyH.nil)
        rw [if_pos (by kernel_rfl)]
        refine op_app_any (.tmp 35) (.tmp 42) 22 5 rfl Tryd.underlying22 bytesInfo W.heap.size (wsB (ws.take i)) A3 L c3 rfl HT.out (HO.out.drew.alloc _) [UInt8.ofNat s.size] _ 1 _ _ rfl rfl (by intro h; cases h) (Rb.one (w := wr.drew) (c := UInt8.ofNat s.size) rfl HE8.out) (by have := HLB.out; simp only [List.length_singleton]; omega) hHeld.size ?_
        intro A4 c4 w4 ho4 hg4 hb4
        have HO4 := Lib.hid ho4
        have HL4 := Lib.hid (show (wsB (ws.take i) ++ [UInt8.ofNat s.size]).length = L + 1 by rw [List.length_append, HT.out]; rfl)
        rw [HL4.out]
        refine hK.out _ _ (hHeld.trans hb4) (fun hHeld => ?_)
        try simp only [Act.put, List.setIfInBounds_toArray, List.set_cons_zero, List.set_cons_succ, List.getElem_toArray, List.getElem_cons_succ, List.getElem_cons_zero]
        clear ho4 hg4 hb4
        refine wpAnyH_ready (rs := [13]) (by kernel_rfl) (by simp) (AllReadyH.cons rfl (fun K hK => ?_) AllReadyH.nil)
        rw [if_pos (by kernel_rfl)]
        refine op_app_str (.tmp 43) (.tmp 47) 22 9 5 rfl Tryd.underlying22 Tryd.underlying9 bytesInfo W.heap.size _ A4 (L + 1) c4 rfl HL4.out HO4.out s rfl (by have := HLB.out; have := HT.out; rw [HL4.out]; omega) hHeld.size ?_
        intro A5 c5 w5 ho5 hg5 hb5
        have HO5 := Lib.hid ho5
        have HL5 := Lib.hid (show (wsB (ws.take i) ++ [UInt8.ofNat s.size] ++ s.data.toList).length = L + 1 + s.size by rw [List.length_append, HL4.out]; rfl)
        rw [HL5.out]
        refine hK.out _ _ (hHeld.trans hb5) (fun hHeld => ?_)
        try simp only [Act.put, List.setIfInBounds_toArray, List.set_cons_zero, List.set_cons_succ, List.getElem_toArray, List.getElem_cons_succ, List.getElem_cons_zero]
        clear ho5 hg5 hb5
        refine take_at (some 6) (i := 14) (v := ?_) rfl rfl (by kernel_rfl) (by kernel_rfl) (by kernel_rfl) (fun _ _ _ h => h) (Or.inl ⟨by kernel_rfl, ?_⟩) hHeld ?_
        rotate_left
        · intro wz hSw; go_simp; try (with_reducible rfl)
        try simp only [Act.put, List.setIfInBounds_toArray, List.set_cons_zero, List.set_cons_succ, List.getElem_toArray, List.getElem_cons_succ, List.getElem_cons_zero]
        refine wpAnyH_done (by kernel_rfl) ?_ _
        go_wp2_with fail
        go_roundw
        case rel => exact ⟨i + 1, _, A5, c5, L + 1 + s.size, by omega, by go_num, rfl, rfl, Lib.hid (by rw [HT2.out, ← List.append_assoc]; exact HL5.out), Lib.hid (by rw [HT2.out, ← List.append_assoc]; exact HO5.out), Lib.hid (HST.out (Or.inl (by trivial))), Lib.hid hHeld⟩
        case measure => simp [intOf]; omega
      | false =>
        have hcw := HCW.out
        by_cases h255 : s.size ≤ 255
        · have HH := Lib.hid h255
          have hd : decide ((255 : Int) < (s.size : Int)) = false := by simp; omega
          have h3 : (s.size : Int) ≤ 255 := by omega
          clear h255
          go_wp2_with fail
          clear hcw
          try simp only [List.cons_append, List.nil_append]
          refine wp_region_held_drew (S := fun u => Below W.heap.size W u) (by kernel_rfl) (HB.out.drew) (fun hHeld => ?_)
          refine take_at (some 35) (i := 0) (v := ?_) rfl rfl (by kernel_rfl) (by kernel_rfl) (by kernel_rfl) (fun _ _ _ h => h) (Or.inl ⟨by kernel_rfl, ?_⟩) hHeld ?_
          rotate_left
          · intro wz hSw; go_simp; try (with_reducible rfl)
          try simp only [Act.put, List.setIfInBounds_toArray, List.set_cons_zero, List.set_cons_succ, List.getElem_toArray, List.getElem_cons_succ, List.getElem_cons_zero]
          refine take_at (some 36) (i := 1) (v := ?_) rfl rfl (by kernel_rfl) (by kernel_rfl) (by kernel_rfl) (fun _ _ _ h => h) (Or.inl ⟨by kernel_rfl, ?_⟩) hHeld ?_
          rotate_left
          · intro wz hSw; go_simp; try (with_reducible rfl)
          try simp only [Act.put, List.setIfInBounds_toArray, List.set_cons_zero, List.set_cons_succ, List.getElem_toArray, List.getElem_cons_succ, List.getElem_cons_zero]
          refine take_at (some 37) (i := 2) (v := ?_) rfl rfl (by kernel_rfl) (by kernel_rfl) (by kernel_rfl) (fun _ _ _ h => h) (Or.inl ⟨by kernel_rfl, ?_⟩) hHeld ?_
          rotate_left
          · intro wz hSw; go_simp; try (with_reducible rfl)
          try simp only [Act.put, List.setIfInBounds_toArray, List.set_cons_zero, List.set_cons_succ, List.getElem_toArray, List.getElem_cons_succ, List.getElem_cons_zero]
          refine take_at (some 38) (i := 3) (v := ?_) rfl rfl (by kernel_rfl) (by kernel_rfl) (by kernel_rfl) (fun _ _ _ h => h) (Or.inl ⟨by kernel_rfl, ?_⟩) hHeld ?_
          rotate_left
          · intro wz hSw; go_simp; try (with_reducible rfl)
          try simp only [Act.put, List.setIfInBounds_toArray, List.set_cons_zero, List.set_cons_succ, List.getElem_toArray, List.getElem_cons_succ, List.getElem_cons_zero]
          refine take_at (some 39) (i := 4) (v := ?_) rfl rfl (by kernel_rfl) (by kernel_rfl) (by kernel_rfl) (fun _ _ _ h => h) (Or.inl ⟨by kernel_rfl, ?_⟩) hHeld ?_
          rotate_left
          · intro wz hSw; have hcv := HCL.out wz hSw; go_simp; try (with_reducible rfl)
          try simp only [Act.put, List.setIfInBounds_toArray, List.set_cons_zero, List.set_cons_succ, List.getElem_toArray, List.getElem_cons_succ, List.getElem_cons_zero]
          refine take_at (some 40) (i := 5) (v := ?_) rfl rfl (by kernel_rfl) (by kernel_rfl) (by kernel_rfl) (fun _ _ _ h => h) (Or.inl ⟨by kernel_rfl, ?_⟩) hHeld ?_
          rotate_left
          · intro wz hSw; go_simp; try (with_reducible rfl)
          try simp only [Act.put, List.setIfInBounds_toArray, List.set_cons_zero, List.set_cons_succ, List.getElem_toArray, List.getElem_cons_succ, List.getElem_cons_zero]
          refine take_at (some 41) (i := 6) (v := ?_) rfl rfl (by kernel_rfl) (by kernel_rfl) (by kernel_rfl) (fun _ _ _ h => h) (Or.inl ⟨by kernel_rfl, ?_⟩) hHeld ?_
          rotate_left
          · intro wz hSw; go_simp; try (with_reducible rfl)
          try simp only [Act.put, List.setIfInBounds_toArray, List.set_cons_zero, List.set_cons_succ, List.getElem_toArray, List.getElem_cons_succ, List.getElem_cons_zero]
          refine take_at (some 44) (i := 9) (v := ?_) rfl rfl (by kernel_rfl) (by kernel_rfl) (by kernel_rfl) (fun _ _ _ h => h) (Or.inl ⟨by kernel_rfl, ?_⟩) hHeld ?_
          rotate_left
          · intro wz hSw; go_simp; try (with_reducible rfl)
          try simp only [Act.put, List.setIfInBounds_toArray, List.set_cons_zero, List.set_cons_succ, List.getElem_toArray, List.getElem_cons_succ, List.getElem_cons_zero]
          refine take_at (some 45) (i := 10) (v := ?_) rfl rfl (by kernel_rfl) (by kernel_rfl) (by kernel_rfl) (fun _ _ _ h => h) (Or.inl ⟨by kernel_rfl, ?_⟩) hHeld ?_
          rotate_left
          · intro wz hSw; go_simp; try (with_reducible rfl)
          try simp only [Act.put, List.setIfInBounds_toArray, List.set_cons_zero, List.set_cons_succ, List.getElem_toArray, List.getElem_cons_succ, List.getElem_cons_zero]
          refine take_at (some 46) (i := 11) (v := ?_) rfl rfl (by kernel_rfl) (by kernel_rfl) (by kernel_rfl) (fun _ _ _ h => h) (Or.inl ⟨by kernel_rfl, ?_⟩) hHeld ?_
          rotate_left
          · intro wz hSw; go_simp; try (with_reducible rfl)
          try simp only [Act.put, List.setIfInBounds_toArray, List.set_cons_zero, List.set_cons_succ, List.getElem_toArray, List.getElem_cons_succ, List.getElem_cons_zero]
          refine take_at (some 47) (i := 12) (v := ?_) rfl rfl (by kernel_rfl) (by kernel_rfl) (by kernel_rfl) (fun _ _ _ h => h) (Or.inl ⟨by kernel_rfl, ?_⟩) hHeld ?_
          rotate_left
          · intro wz hSw; have hcv := HCL.out wz hSw; go_simp; try (with_reducible rfl)
          try simp only [Act.put, List.setIfInBounds_toArray, List.set_cons_zero, List.set_cons_succ, List.getElem_toArray, List.getElem_cons_succ, List.getElem_cons_zero]
          refine wpAnyH_ready (rs := [7]) (by kernel_rfl) (by simp) (AllReadyH.cons rfl (fun K hK => ?_) AllReadyH.nil)
          rw [if_pos (by kernel_rfl)]
          go_simp
          refine hK.out _ _ (HB.out.drew.alloc HB.out.size _) (fun hHeld => ?_)
          try simp only [Act.put, List.setIfInBounds_toArray, List.set_cons_zero, List.set_cons_succ, List.getElem_toArray, List.getElem_cons_succ, List.getElem_cons_zero]
          refine wpAnyH_ready (rs := [8]) (by kernel_rfl) (by simp) (AllReadyH.cons rfl (fun K hK => ?_) AllReadyH.nil)
          rw [if_pos (by kernel_rfl)]
          refine op_app_any (.tmp 35) (.tmp 42) 22 5 rfl Tryd.underlying22 bytesInfo W.heap.size (wsB (ws.take i)) A3 L c3 rfl HT.out (HO.out.drew.alloc _) [UInt8.ofNat s.size] _ 1 _ _ rfl rfl (by intro h; cases h) (Rb.one (w := wr.drew) (c := UInt8.ofNat s.size) rfl HE8.out) (by have := HLB.out; simp only [List.length_singleton]; omega) hHeld.size ?_
          intro A4 c4 w4 ho4 hg4 hb4
          have HO4 := Lib.hid ho4
          have HL4 := Lib.hid (show (wsB (ws.take i) ++ [UInt8.ofNat s.size]).length = L + 1 by rw [List.length_append, HT.out]; rfl)
          rw [HL4.out]
          refine hK.out _ _ (hHeld.trans hb4) (fun hHeld => ?_)
          try simp only [Act.put, List.setIfInBounds_toArray, List.set_cons_zero, List.set_cons_succ, List.getElem_toArray, List.getElem_cons_succ, List.getElem_cons_zero]
          clear ho4 hg4 hb4
          refine wpAnyH_ready (rs := [13]) (by kernel_rfl) (by simp) (AllReadyH.cons rfl (fun K hK => ?_) AllReadyH.nil)
          rw [if_pos (by kernel_rfl)]
          refine op_app_str (.tmp 43) (.tmp 47) 22 9 5 rfl Tryd.underlying22 Tryd.underlying9 bytesInfo W.heap.size _ A4 (L + 1) c4 rfl HL4.out HO4.out s rfl (by have := HLB.out; have := HT.out; rw [HL4.out]; omega) hHeld.size ?_
          intro A5 c5 w5 ho5 hg5 hb5
          have HO5 := Lib.hid ho5
          have HL5 := Lib.hid (show (wsB (ws.take i) ++ [UInt8.ofNat s.size] ++ s.data.toList).length = L + 1 + s.size by rw [List.length_append, HL4.out]; rfl)
          rw [HL5.out]
          refine hK.out _ _ (hHeld.trans hb5) (fun hHeld => ?_)
          try simp only [Act.put, List.setIfInBounds_toArray, List.set_cons_zero, List.set_cons_succ, List.getElem_toArray, List.getElem_cons_succ, List.getElem_cons_zero]
          clear ho5 hg5 hb5
          refine take_at (some 6) (i := 14) (v := ?_) rfl rfl (by kernel_rfl) (by kernel_rfl) (by kernel_rfl) (fun _ _ _ h => h) (Or.inl ⟨by kernel_rfl, ?_⟩) hHeld ?_
          rotate_left
          · intro wz hSw; go_simp; try (with_reducible rfl)
          try simp only [Act.put, List.setIfInBounds_toArray, List.set_cons_zero, List.set_cons_succ, List.getElem_toArray, List.getElem_cons_succ, List.getElem_cons_zero]
          refine wpAnyH_done (by kernel_rfl) ?_ _
          go_wp2_with fail
          go_roundw
          case rel => exact ⟨i + 1, _, A5, c5, L + 1 + s.size, by omega, by go_num, rfl, rfl, Lib.hid (by rw [HT2.out, ← List.append_assoc]; exact HL5.out), Lib.hid (by rw [HT2.out, ← List.append_assoc]; exact HO5.out), Lib.hid (HST.out (.inr HH.out)), Lib.hid hHeld⟩
          case measure => simp [intOf]; omega
        · have HH := Lib.hid (show 255 < s.size by omega)
          have hd : decide ((255 : Int) < (s.size : Int)) = true := by simp; omega
          have h3 : (255 : Int) < (s.size : Int) := by omega
          clear h255
          go_wp2_with fail
          clear hcw
          try simp only [List.cons_append, List.nil_append]
          refine wp_region_held_drew (S := fun u => Below W.heap.size W u) (by kernel_rfl) (HB.out.drew) (fun hHeld => ?_)
          refine take_at (some 35) (i := 0) (v := ?_) rfl rfl (by kernel_rfl) (by kernel_rfl) (by kernel_rfl) (fun _ _ _ h => h) (Or.inl ⟨by kernel_rfl, ?_⟩) hHeld ?_
          rotate_left
          · intro wz hSw; go_simp; try (with_reducible rfl)
          try simp only [Act.put, List.setIfInBounds_toArray, List.set_cons_zero, List.set_cons_succ, List.getElem_toArray, List.getElem_cons_succ, List.getElem_cons_zero]
          refine take_at (some 36) (i := 1) (v := ?_) rfl rfl (by kernel_rfl) (by kernel_rfl) (by kernel_rfl) (fun _ _ _ h => h) (Or.inl ⟨by kernel_rfl, ?_⟩) hHeld ?_
          rotate_left
          · intro wz hSw; go_simp; try (with_reducible rfl)
          try simp only [Act.put, List.setIfInBounds_toArray, List.set_cons_zero, List.set_cons_succ, List.getElem_toArray, List.getElem_cons_succ, List.getElem_cons_zero]
          refine take_at (some 37) (i := 2) (v := ?_) rfl rfl (by kernel_rfl) (by kernel_rfl) (by kernel_rfl) (fun _ _ _ h => h) (Or.inl ⟨by kernel_rfl, ?_⟩) hHeld ?_
          rotate_left
          · intro wz hSw; go_simp; try (with_reducible rfl)
          try simp only [Act.put, List.setIfInBounds_toArray, List.set_cons_zero, List.set_cons_succ, List.getElem_toArray, List.getElem_cons_succ, List.getElem_cons_zero]
          refine take_at (some 38) (i := 3) (v := ?_) rfl rfl (by kernel_rfl) (by kernel_rfl) (by kernel_rfl) (fun _ _ _ h => h) (Or.inl ⟨by kernel_rfl, ?_⟩) hHeld ?_
          rotate_left
          · intro wz hSw; go_simp; try (with_reducible rfl)
          try simp only [Act.put, List.setIfInBounds_toArray, List.set_cons_zero, List.set_cons_succ, List.getElem_toArray, List.getElem_cons_succ, List.getElem_cons_zero]
          refine take_at (some 39) (i := 4) (v := ?_) rfl rfl (by kernel_rfl) (by kernel_rfl) (by kernel_rfl) (fun _ _ _ h => h) (Or.inl ⟨by kernel_rfl, ?_⟩) hHeld ?_
          rotate_left
          · intro wz hSw; have hcv := HCL.out wz hSw; go_simp; try (with_reducible rfl)
          try simp only [Act.put, List.setIfInBounds_toArray, List.set_cons_zero, List.set_cons_succ, List.getElem_toArray, List.getElem_cons_succ, List.getElem_cons_zero]
          refine take_at (some 40) (i := 5) (v := ?_) rfl rfl (by kernel_rfl) (by kernel_rfl) (by kernel_rfl) (fun _ _ _ h => h) (Or.inl ⟨by kernel_rfl, ?_⟩) hHeld ?_
          rotate_left
          · intro wz hSw; go_simp; try (with_reducible rfl)
          try simp only [Act.put, List.setIfInBounds_toArray, List.set_cons_zero, List.set_cons_succ, List.getElem_toArray, List.getElem_cons_succ, List.getElem_cons_zero]
          refine take_at (some 41) (i := 6) (v := ?_) rfl rfl (by kernel_rfl) (by kernel_rfl) (by kernel_rfl) (fun _ _ _ h => h) (Or.inl ⟨by kernel_rfl, ?_⟩) hHeld ?_
          rotate_left
          · intro wz hSw; go_simp; try (with_reducible rfl)
          try simp only [Act.put, List.setIfInBounds_toArray, List.set_cons_zero, List.set_cons_succ, List.getElem_toArray, List.getElem_cons_succ, List.getElem_cons_zero]
          refine take_at (some 44) (i := 9) (v := ?_) rfl rfl (by kernel_rfl) (by kernel_rfl) (by kernel_rfl) (fun _ _ _ h => h) (Or.inl ⟨by kernel_rfl, ?_⟩) hHeld ?_
          rotate_left
          · intro wz hSw; go_simp; try (with_reducible rfl)
          try simp only [Act.put, List.setIfInBounds_toArray, List.set_cons_zero, List.set_cons_succ, List.getElem_toArray, List.getElem_cons_succ, List.getElem_cons_zero]
          refine take_at (some 45) (i := 10) (v := ?_) rfl rfl (by kernel_rfl) (by kernel_rfl) (by kernel_rfl) (fun _ _ _ h => h) (Or.inl ⟨by kernel_rfl, ?_⟩) hHeld ?_
          rotate_left
          · intro wz hSw; go_simp; try (with_reducible rfl)
          try simp only [Act.put, List.setIfInBounds_toArray, List.set_cons_zero, List.set_cons_succ, List.getElem_toArray, List.getElem_cons_succ, List.getElem_cons_zero]
          refine take_at (some 46) (i := 11) (v := ?_) rfl rfl (by kernel_rfl) (by kernel_rfl) (by kernel_rfl) (fun _ _ _ h => h) (Or.inl ⟨by kernel_rfl, ?_⟩) hHeld ?_
          rotate_left
          · intro wz hSw; go_simp; try (with_reducible rfl)
          try simp only [Act.put, List.setIfInBounds_toArray, List.set_cons_zero, List.set_cons_succ, List.getElem_toArray, List.getElem_cons_succ, List.getElem_cons_zero]
          refine take_at (some 47) (i := 12) (v := ?_) rfl rfl (by kernel_rfl) (by kernel_rfl) (by kernel_rfl) (fun _ _ _ h => h) (Or.inl ⟨by kernel_rfl, ?_⟩) hHeld ?_
          rotate_left
          · intro wz hSw; have hcv := HCL.out wz hSw; go_simp; try (with_reducible rfl)
          try simp only [Act.put, List.setIfInBounds_toArray, List.set_cons_zero, List.set_cons_succ, List.getElem_toArray, List.getElem_cons_succ, List.getElem_cons_zero]
          refine wpAnyH_ready (rs := [7]) (by kernel_rfl) (by simp) (AllReadyH.cons rfl (fun K hK => ?_) AllReadyH.nil)
          rw [if_pos (by kernel_rfl)]
          go_simp
          refine hK.out _ _ (HB.out.drew.alloc HB.out.size _) (fun hHeld => ?_)
          try simp only [Act.put, List.setIfInBounds_toArray, List.set_cons_zero, List.set_cons_succ, List.getElem_toArray, List.getElem_cons_succ, List.getElem_cons_zero]
          refine wpAnyH_ready (rs := [8]) (by kernel_rfl) (by simp) (AllReadyH.cons rfl (fun K hK => ?_) AllReadyH.nil)
          rw [if_pos (by kernel_rfl)]
          refine op_app_any (.tmp 35) (.tmp 42) 22 5 rfl Tryd.underlying22 bytesInfo W.heap.size (wsB (ws.take i)) A3 L c3 rfl HT.out (HO.out.drew.alloc _) [UInt8.ofNat s.size] _ 1 _ _ rfl rfl (by intro h; cases h) (Rb.one (w := wr.drew) (c := UInt8.ofNat s.size) rfl HE8.out) (by have := HLB.out; simp only [List.length_singleton]; omega) hHeld.size ?_
          intro A4 c4 w4 ho4 hg4 hb4
          have HO4 := Lib.hid ho4
          have HL4 := Lib.hid (show (wsB (ws.take i) ++ [UInt8.ofNat s.size]).length = L + 1 by rw [List.length_append, HT.out]; rfl)
          rw [HL4.out]
          refine hK.out _ _ (hHeld.trans hb4) (fun hHeld => ?_)
          try simp only [Act.put, List.setIfInBounds_toArray, List.set_cons_zero, List.set_cons_succ, List.getElem_toArray, List.getElem_cons_succ, List.getElem_cons_zero]
          clear ho4 hg4 hb4
          refine wpAnyH_ready (rs := [13]) (by kernel_rfl) (by simp) (AllReadyH.cons rfl (fun K hK => ?_) AllReadyH.nil)
          rw [if_pos (by kernel_rfl)]
          refine op_app_str (.tmp 43) (.tmp 47) 22 9 5 rfl Tryd.underlying22 Tryd.underlying9 bytesInfo W.heap.size _ A4 (L + 1) c4 rfl HL4.out HO4.out s rfl (by have := HLB.out; have := HT.out; rw [HL4.out]; omega) hHeld.size ?_
          intro A5 c5 w5 ho5 hg5 hb5
          have HO5 := Lib.hid ho5
          have HL5 := Lib.hid (show (wsB (ws.take i) ++ [UInt8.ofNat s.size] ++ s.data.toList).length = L + 1 + s.size by rw [List.length_append, HL4.out]; rfl)
          rw [HL5.out]
          refine hK.out _ _ (hHeld.trans hb5) (fun hHeld => ?_)
          try simp only [Act.put, List.setIfInBounds_toArray, List.set_cons_zero, List.set_cons_succ, List.getElem_toArray, List.getElem_cons_succ, List.getElem_cons_zero]
          clear ho5 hg5 hb5
          refine take_at (some 6) (i := 14) (v := ?_) rfl rfl (by kernel_rfl) (by kernel_rfl) (by kernel_rfl) (fun _ _ _ h => h) (Or.inl ⟨by kernel_rfl, ?_⟩) hHeld ?_
          rotate_left
          · intro wz hSw; go_simp; try (with_reducible rfl)
          try simp only [Act.put, List.setIfInBounds_toArray, List.set_cons_zero, List.set_cons_succ, List.getElem_toArray, List.getElem_cons_succ, List.getElem_cons_zero]
          refine wpAnyH_done (by kernel_rfl) ?_ _
          go_wp2_with fail
          go_roundw
          case rel => exact ⟨i + 1, _, A5, c5, L + 1 + s.size, by omega, by go_num, rfl, rfl, Lib.hid (by rw [HT2.out, ← List.append_assoc]; exact HL5.out), Lib.hid (by rw [HT2.out, ← List.append_assoc]; exact HO5.out), Lib.hid (HTN.out HH.out), Lib.hid hHeld⟩
          case measure => simp [intOf]; omega
    · have hi2 : (n2 : Int) ≤ (i : Int) := by omega
      have HI3 := Lib.hid (show ws.take i = ws by rw [List.take_of_length_le]; rw [HSI.out.len]; omega)
      have HIE := Lib.hid (show i = ws.length by rw [HSI.out.len]; omega)
      rw [HI3.out] at HT HO
      cases v with
      | true =>
        have HPN := Lib.hid (show proofB l ws = [] by
          obtain ⟨j, hj, _, h255⟩ := HV.out.1 rfl
          exact proofB_long l ws j hj h255)
        go_wp2_with fail
        refine (proof_ok A n c l A2 n2 c2 ws _ HI.out.len HI.out.cap HI.out.max HN.out (HRW.out _ HB.out) HSI.out.len HSN.out (HRWS.out _ HB.out) HSS.out HTX.out (HGW.out _ HB.out)).mono ?_
        rintro e w3 ⟨rfl, hb3⟩
        have HB3 := Lib.hid (HB.out.trans (hb3.mono HB.out.size))
        clear hb3
        rw [HPN.out]
        go_wp2_with fail
        go_ret
        exact ⟨rfl, HB3.out⟩
      | false =>
        have HSH := Lib.hid (show ∀ x ∈ ws, x.size ≤ 255 by
          intro x hx
          obtain ⟨j, hj, rfl⟩ := List.mem_iff_getElem.1 hx
          rcases Nat.lt_or_ge 255 ws[j].size with h | h
          · have := HV.out.2 ⟨j, hj, by rw [HIE.out]; exact hj, h⟩
            cases this
          · exact h)
        have HPN := Lib.hid (proofB_short l ws (fun j hj => HSH.out ws[j] (List.getElem_mem hj)))
        have HWS := Lib.hid (wsB_short ws HSH.out)
        rw [HWS.out] at HT HO
        have HLL := Lib.hid (show L ≤ 549755813888 by rw [← HT.out]; exact HTX.out)
        have HNL := Lib.hid (show A3 = none → L = 0 ∧ c3 = 0 by
          intro h
          subst h
          rcases HO.out.2 with ⟨hv, h0⟩ | ⟨g, cap, cur, hv, _⟩
          · injection hv with _ h1 h2
            exact ⟨by rw [← HT.out]; exact h1, h2⟩
          · injection hv with h1; cases h1)
        obtain ⟨PB, hPB⟩ : ∃ B : ByteArray, B = ⟨(hexB (macB l (textsB ws))).toArray⟩ := ⟨_, rfl⟩
        have HPB := Lib.hid hPB
        have HZE := Lib.hid (show (Tryd.prog.info? 26).map (·.size) = some (bcells (macB l (textsB ws))).size by rw [bcells_size, macB_len]; kernel_rfl)
        have HZE2 := Lib.hid (show (bcells (List.replicate 32 0)).size = (bcells (macB l (textsB ws))).size by rw [bcells_size, bcells_size, macB_len, List.length_replicate])
        clear hPB
        go_wp2_with fail
        refine (proof_ok A n c l A2 n2 c2 ws _ HI.out.len HI.out.cap HI.out.max HN.out (HRW.out _ HB.out) HSI.out.len HSN.out (HRWS.out _ HB.out) HSS.out HTX.out (HGW.out _ HB.out)).mono ?_
        rintro e w3 ⟨rfl, hb3⟩
        have HB3 := Lib.hid (HB.out.trans (hb3.mono HB.out.size))
        have HO3 := Lib.hid (show OB w3 W.heap.size 5 A3 c3 (textsB ws) from HO.out.stay hb3 (Nat.le_refl _))
        clear hb3
        rw [HPN.out, ← HPB.out]
        go_wp2_with fail
        refine (mac_ok A n c l A3 L c3 (textsB ws) _ HI.out.len HI.out.cap HI.out.max HN.out (HRW.out _ HB3.out) HT.out HLL.out HO3.out.rb HNL.out (HGW.out _ HB3.out)).mono ?_
        rintro e w4 ⟨rfl, hb4⟩
        have HB4 := Lib.hid (HB3.out.trans (hb4.mono HB3.out.size))
        clear hb4
        go_upto_region 15 with (refine wpList_store_row rfl 26 (.tmp 10) (.tmp 60) rfl w4.heap.size _ rfl rfl 26 _ (zeros_new w4) HZE.out HZE2.out (bcells_one _) ?_)
        refine gen_world (fun u => Bk u w4.heap.size 26 (bcells (macB l (textsB ws))) ∧ Below W.heap.size W u) ⟨(zeros_new w4).setRow _, Below.setRow (HB4.out.alloc HB4.out.size _) _ HB4.out.size _⟩ (fun w5 hw5 => ?_)
        have HK5 := Lib.hid hw5.1
        have HB5 := Lib.hid hw5.2
        clear hw5
        go_wp2_with fail
        refine (rhex_ok (some ⟨w4.heap.size, 0, none⟩) 32 32 (macB l (textsB ws)) _ (macB_len _ _) (by omega) (Rb.row HK5.out HK5.out.lt)).mono ?_
        rintro e w6 ⟨rfl, hb6⟩
        have HB6 := Lib.hid (HB5.out.trans (hb6.mono HB5.out.size))
        clear hb6
        rw [← HPB.out]
        go_wp2_with fail
        go_ret
        exact ⟨rfl, HB6.out⟩
end Go.Proofs.YtoekdiefbpnekaaDoor
