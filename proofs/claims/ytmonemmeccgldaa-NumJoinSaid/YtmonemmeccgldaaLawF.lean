/- The walk of NumJoin. -/
import Derived.Test.YtmonemmeccgldaaJoin
namespace Go.Proofs.Ytmonemmeccgldaa
set_option linter.unusedVariables false
set_option linter.unusedSimpArgs false
open Go.RowKit

theorem put_o (x : Nat) (w : World) (hx : x ≤ 1099511627776) : Calls Try.prog 16 #[.int .i64 x] w fun e w' => ∃ g, e = .returned (.slice (some ⟨g, 0, none⟩) (putB x).length (putB x).length) ∧ OB w' w.heap.size 5 (some ⟨g, 0, none⟩) (putB x).length (putB x) ∧ g < w'.heap.size ∧ w.heap.size ≤ g ∧ Below w.heap.size w w' :=
  (put_ok x w hx).mono fun e w' ⟨h1, h2⟩ => by
    subst h1; subst h2
    exact ⟨_, rfl, OB.new 5 (putB x) (Nat.le_refl _) (putB_len x hx), by simp, Nat.le_refl _, by go_grown⟩
theorem text_o (s : ByteArray) (w : World) (hs : s.size ≤ 255) : Calls Try.prog 18 #[.string s] w fun e w' => ∃ g c, e = .returned (.slice (some ⟨g, 0, none⟩) (textB s).length c) ∧ OB w' w.heap.size 5 (some ⟨g, 0, none⟩) c (textB s) ∧ g < w'.heap.size ∧ w.heap.size ≤ g ∧ Below w.heap.size w w' :=
  (text_ok s w (by omega)).mono fun e w' ⟨A, c, h1, h2, h3⟩ => by
    have hne : textB s ≠ [] := by rw [textB, if_pos hs]; simp
    obtain ⟨g, rfl, hg, hg2⟩ := h2.form hne
    exact ⟨g, c, h1, h2, hg2, hg, h3⟩
theorem textB_len (s : ByteArray) : (textB s).length ≤ 256 := by
  unfold textB
  split
  · have : s.data.toList.length = s.size := rfl
    simp only [List.length_cons]; omega
  · simp
theorem putB_len13 (x : Nat) (h : x ≤ 4294967295) : (putB x).length ≤ 33554434 := by
  have h1 := dg_len 128 (by omega) (x / 128)
  unfold putB
  split <;> simp <;> omega

def fj (ln : List Int) (ls : List ByteArray) (j : Nat) : List UInt8 := putB (ln.getD j 0).toNat ++ textB (ls.getD j ⟨#[]⟩)
theorem fj_len (ln : List Int) (ls : List ByteArray) (h : ∀ x ∈ ln, 0 ≤ x ∧ x ≤ 4294967295) (j : Nat) : (fj ln ls j).length ≤ 33554690 := by
  have h1 := textB_len (ls.getD j ⟨#[]⟩)
  have h2 : (ln.getD j 0).toNat ≤ 4294967295 := by
    by_cases hj : j < ln.length
    · have := h _ (List.getElem_mem hj)
      simp [List.getD, hj]; omega
    · simp [List.getD, hj]
  have h3 := putB_len13 _ h2
  unfold fj
  rw [List.length_append]; omega

theorem u32_wf (x : Int) (h : (Lit.int .u32 x).wf = true) : 0 ≤ x ∧ x ≤ 4294967295 := by
  have e1 : IntKind.u32.min = 0 := by decide
  have e2 : IntKind.u32.max = 4294967295 := by decide
  simp only [Lit.wf, e1, e2, Bool.and_eq_true, decide_eq_true_eq] at h
  exact h

/-- Of bytes that a slice reads as, all but the first few. -/
theorem Rb.drop {w : World} {B g k : Nat} {l : List UInt8} (h : Rb w B (some ⟨g, 0, none⟩) l) : Rb w B (some ⟨g, k, none⟩) (l.drop k) := by
  rcases h with h | ⟨b, o, e, hb, hc⟩
  · left; rw [h]; simp
  · injection e with e
    injection e with e1 e2
    subst e1; subst e2
    refine .inr ⟨g, k, rfl, hb, fun i hi => ?_⟩
    have hi' : k + i < l.length := by rw [List.length_drop] at hi; omega
    have := hc (k + i) hi'
    rw [Nat.zero_add] at this
    rw [this, List.getElem_drop]

set_option maxRecDepth 100000 in
set_option maxHeartbeats 4000000 in
theorem walk_NumJoin (A : Option Addr) (ln : List Int) (n c : Nat) (A' : Option Addr) (ls : List ByteArray) (n' c' : Nat) (W : World) (wn : InN .u32 W A ln n c) (ws : InS W A' ls n' c') :
    Calls Try.prog 7 #[.slice A n c, .slice A' n' c'] W fun e w' => e = .returned (.bool true) ∧ Below W.heap.size W w' := by
  have hm1 := wn.max
  have hc1 := wn.cap
  have hm2 := ws.max
  have hc2 := ws.cap
  unfold maxLen at hm1 hm2
  by_cases g1 : 100 < n
  · go_enter Try.func7, Try.ntmps7
    go_wp2_with fail
    refine (head_ok _).mono ?_
    rintro e w1 ⟨rfl, hb1⟩
    go_wp2
    go_ret
    exact ⟨rfl, hb1⟩
  by_cases g2 : 100 < n'
  · go_enter Try.func7, Try.ntmps7
    go_wp2_with fail
    refine (head_ok _).mono ?_
    rintro e w1 ⟨rfl, hb1⟩
    go_wp2
    go_ret
    exact ⟨rfl, hb1⟩
  have HN := Lib.hid wn
  have HS := Lib.hid ws
  have HWF := Lib.hid (fun x hx => u32_wf x (wn.wf x hx))
  have HFL := Lib.hid (fj_len ln ls (fun x hx => u32_wf x (wn.wf x hx)))
  clear wn ws
  obtain ⟨f, hf⟩ : ∃ f, f = fj ln ls := ⟨_, rfl⟩
  rw [← hf] at HFL
  have HF := Lib.hid hf
  clear hf
  go_enter Try.func7, Try.ntmps7
  go_wp2_with fail
  refine (head_ok _).mono ?_
  rintro e w1 ⟨rfl, hb1⟩
  go_wp2_with fail
  go_loopw [6, 7] (fun v6 v7 wr => ∃ (i L2 c2 : Nat) (A2 : Option Addr), v7 = .int .i64 i ∧ i ≤ n ∧ i ≤ n' ∧ v6 = .slice A2 L2 c2 ∧ Hid ((encU f i).length = L2) ∧ Hid (OB wr w1.heap.size 5 A2 c2 (encU f i)) ∧ Below w1.heap.size w1 wr ∧ Hid (∀ j, j < i → (ls.getD j ⟨#[]⟩).size ≤ 255)) (fun _ v7 _ => n - (intOf v7).toNat)
  case atStart => exact ⟨0, 0, 0, none, rfl, by omega, by omega, rfl, Lib.hid rfl, Lib.hid (OB.nil _ _ _), Below.refl _ _, Lib.hid (fun j hj => by omega)⟩
  case round =>
    obtain ⟨i, L2, c2, A2, rfl, hin, hin', rfl, HL, HO, hbel, HSM⟩ := hrel
    have hbW : Below W.heap.size W wr := hb1.trans (hbel.mono hb1.size)
    by_cases hi1 : i < n
    · by_cases hi2 : i < n'
      · obtain ⟨bA, oA, rfl, hbA, hcA⟩ : ∃ b o, A = some ⟨b, o, none⟩ ∧ b < W.heap.size ∧ wr.cell? ⟨b, o + i, none⟩ = some (.int .u32 ((ln.getD i 0).toNat : Int)) := by
          rcases HN.out.at_ with h | ⟨b, o, e, hb, hc⟩
          · omega
          · have hil : i < ln.length := by rw [HN.out.len]; exact hi1
            refine ⟨b, o, e, hb, ?_⟩
            rw [hbW.cell (p := ⟨b, o + i, none⟩) hb, hc i hil]
            have := HWF.out _ (List.getElem_mem hil)
            simp [List.getD, hil]; omega
        obtain ⟨bS, oS, rfl, hbS, hcS⟩ : ∃ b o, A' = some ⟨b, o, none⟩ ∧ b < W.heap.size ∧ wr.cell? ⟨b, o + i, none⟩ = some (.string (ls.getD i ⟨#[]⟩)) := by
          rcases HS.out.at_ with h | ⟨b, o, e, hb, hc⟩
          · omega
          · have hil : i < ls.length := by rw [HS.out.len]; exact hi2
            refine ⟨b, o, e, hb, ?_⟩
            rw [hbW.cell (p := ⟨b, o + i, none⟩) hb, hc i hil]
            simp [List.getD, hil]
        obtain ⟨x, hx⟩ : ∃ x, x = (ln.getD i 0).toNat := ⟨_, rfl⟩
        obtain ⟨s, hs⟩ : ∃ s, s = ls.getD i ⟨#[]⟩ := ⟨_, rfl⟩
        have hx2 : x ≤ 4294967295 := by
          rw [hx]
          have hil : i < ln.length := by rw [HN.out.len]; exact hi1
          have := HWF.out _ (List.getElem_mem hil)
          simp [List.getD, hil]; omega
        have hs2 : s.size ≤ 9223372036854775807 := by
          rw [hs]
          have hil : i < ls.length := by rw [HS.out.len]; exact hi2
          have := HS.out.small _ (List.getElem_mem hil)
          unfold maxLen at this
          simp [List.getD, hil]; omega
        have HE := Lib.hid (show encU f (i + 1) = (encU f i ++ putB x) ++ textB s by
          show encU f i ++ f i = _
          rw [HF.out, hx, hs, List.append_assoc]; rfl)
        have HSS := Lib.hid hs
        rw [← hx] at hcA
        rw [← hs] at hcS
        clear hx hs
        by_cases hbig : 255 < s.size
        · go_wp2
          go_ret
          exact ⟨rfl, hbW⟩
        · have hbA2 : bA < w1.heap.size := Nat.lt_of_lt_of_le hbA hb1.size
          have hbS2 : bS < w1.heap.size := Nat.lt_of_lt_of_le hbS hb1.size
          have HKEEP := Lib.hid (fun u (h : Below w1.heap.size wr u) => show u.cell? ⟨bA, oA + i, none⟩ = some (.int .u32 (x : Int)) ∧ u.cell? ⟨bS, oS + i, none⟩ = some (.string s) ∧ Below w1.heap.size wr u from ⟨(h.cell (p := ⟨bA, oA + i, none⟩) hbA2).trans hcA, (h.cell (p := ⟨bS, oS + i, none⟩) hbS2).trans hcS, h⟩)
          have HPUT := Lib.hid (fun u => put_o x u (by omega))
          have HTXT := Lib.hid (fun u => text_o s u (by omega))
          have HPL := Lib.hid (putB_len13 x hx2)
          have HTL := Lib.hid (textB_len s)
          have HUL := Lib.hid (encU_len f 33554690 i (fun j _ => HFL.out j))
          have hwr1 : IntKind.i64.wrap (x : Int) = (x : Int) := IntWalk.i64_in _ (by omega)
          have hwr2 : wrap64 (x : Int) = (x : Int) := IntWalk.wrap64_in _ (by omega)
          have hii : (0 : Int) ≤ (i : Int) := by omega
          have hii1 : (i : Int) < (n : Int) := by omega
          have hii2 : (i : Int) < (n' : Int) := by omega
          go_wp2_with fail
          refine wp_region_held_drew (S := fun u => u.cell? ⟨bA, oA + i, none⟩ = some (.int .u32 (x : Int)) ∧ u.cell? ⟨bS, oS + i, none⟩ = some (.string s) ∧ Below w1.heap.size wr u) (by kernel_rfl) (HKEEP.out _ (Below.refl _ _).drew) (fun hHeld => ?_)
          refine take_at (some 44) (i := 0) (v := ?_) rfl rfl (by kernel_rfl) (by kernel_rfl) (by kernel_rfl) (fun _ _ _ h => h) (Or.inl ⟨by kernel_rfl, ?_⟩) hHeld ?_
          rotate_left
          · intro w hSw; go_simp; try (with_reducible rfl)
          try simp only [Act.put, List.setIfInBounds_toArray, List.set_cons_zero, List.set_cons_succ, List.getElem_toArray, List.getElem_cons_succ, List.getElem_cons_zero]
          refine take_at (some 45) (i := 1) (v := ?_) rfl rfl (by kernel_rfl) (by kernel_rfl) (by kernel_rfl) (fun _ _ _ h => h) (Or.inl ⟨by kernel_rfl, ?_⟩) hHeld ?_
          rotate_left
          · intro w hSw; go_simp; try (with_reducible rfl)
          try simp only [Act.put, List.setIfInBounds_toArray, List.set_cons_zero, List.set_cons_succ, List.getElem_toArray, List.getElem_cons_succ, List.getElem_cons_zero]
          refine take_at (some 46) (i := 2) (v := ?_) rfl rfl (by kernel_rfl) (by kernel_rfl) (by kernel_rfl) (fun _ _ _ h => h) (Or.inl ⟨by kernel_rfl, ?_⟩) hHeld ?_
          rotate_left
          · intro w hSw; go_simp; try (with_reducible rfl)
          try simp only [Act.put, List.setIfInBounds_toArray, List.set_cons_zero, List.set_cons_succ, List.getElem_toArray, List.getElem_cons_succ, List.getElem_cons_zero]
          refine take_at (some 47) (i := 3) (v := ?_) rfl rfl (by kernel_rfl) (by kernel_rfl) (by kernel_rfl) (fun _ _ _ h => h) (Or.inl ⟨by kernel_rfl, ?_⟩) hHeld ?_
          rotate_left
          · intro w hSw; go_simp; try (with_reducible rfl)
          try simp only [Act.put, List.setIfInBounds_toArray, List.set_cons_zero, List.set_cons_succ, List.getElem_toArray, List.getElem_cons_succ, List.getElem_cons_zero]
          refine take_at (some 48) (i := 4) (v := ?_) rfl rfl (by kernel_rfl) (by kernel_rfl) (by kernel_rfl) (fun _ _ _ h => h) (Or.inl ⟨by kernel_rfl, ?_⟩) hHeld ?_
          rotate_left
          · intro w hSw; go_simp; try (with_reducible rfl)
          try simp only [Act.put, List.setIfInBounds_toArray, List.set_cons_zero, List.set_cons_succ, List.getElem_toArray, List.getElem_cons_succ, List.getElem_cons_zero]
          refine take_at (some 49) (i := 5) (v := ?_) rfl rfl (by kernel_rfl) (by kernel_rfl) (by kernel_rfl) (fun _ _ _ h => h) (Or.inl ⟨by kernel_rfl, ?_⟩) hHeld ?_
          rotate_left
          · intro w hSw; go_simp; try (with_reducible rfl)
          try simp only [Act.put, List.setIfInBounds_toArray, List.set_cons_zero, List.set_cons_succ, List.getElem_toArray, List.getElem_cons_succ, List.getElem_cons_zero]
          refine take_at (some 52) (i := 8) (v := ?_) rfl rfl (by kernel_rfl) (by kernel_rfl) (by kernel_rfl) (fun _ _ _ h => h) (Or.inl ⟨by kernel_rfl, ?_⟩) hHeld ?_
          rotate_left
          · intro w hSw; go_simp; try (with_reducible rfl)
          try simp only [Act.put, List.setIfInBounds_toArray, List.set_cons_zero, List.set_cons_succ, List.getElem_toArray, List.getElem_cons_succ, List.getElem_cons_zero]
          refine take_at (some 53) (i := 9) (v := ?_) rfl rfl (by kernel_rfl) (by kernel_rfl) (by kernel_rfl) (fun _ _ _ h => h) (Or.inl ⟨by kernel_rfl, ?_⟩) hHeld ?_
          rotate_left
          · intro w hSw; go_simp; try (with_reducible rfl)
          try simp only [Act.put, List.setIfInBounds_toArray, List.set_cons_zero, List.set_cons_succ, List.getElem_toArray, List.getElem_cons_succ, List.getElem_cons_zero]
          refine take_at (some 54) (i := 10) (v := ?_) rfl rfl (by kernel_rfl) (by kernel_rfl) (by kernel_rfl) (fun _ _ _ h => h) (Or.inl ⟨by kernel_rfl, ?_⟩) hHeld ?_
          rotate_left
          · intro w hSw; go_simp; try (with_reducible rfl)
          try simp only [Act.put, List.setIfInBounds_toArray, List.set_cons_zero, List.set_cons_succ, List.getElem_toArray, List.getElem_cons_succ, List.getElem_cons_zero]
          refine take_at (some 55) (i := 11) (v := ?_) rfl rfl (by kernel_rfl) (by kernel_rfl) (by kernel_rfl) (fun _ _ _ h => h) (Or.inl ⟨by kernel_rfl, ?_⟩) hHeld ?_
          rotate_left
          · intro w hSw; go_simp; try (with_reducible rfl)
          try simp only [Act.put, List.setIfInBounds_toArray, List.set_cons_zero, List.set_cons_succ, List.getElem_toArray, List.getElem_cons_succ, List.getElem_cons_zero]
          refine wpAnyH_ready (rs := [6]) (by kernel_rfl) (by simp) (AllReadyH.cons rfl (fun K hK => ?_) AllReadyH.nil)
          rw [if_pos (by kernel_rfl)]
          go_simp
          refine (HPUT.out _).mono ?_
          rintro e w2 ⟨gP, rfl, hoP, hgP, hgP2, hb2⟩
          try dsimp only
          have hr2 : Below wr.heap.size wr w2 := (Below.refl wr.heap.size wr).drew.trans hb2
          have hk2 : Below w1.heap.size wr w2 := hr2.mono hbel.size
          refine hK.out _ _ (HKEEP.out _ hk2) (fun hHeld => ?_)
          clear hK K
          try simp only [Act.put, List.setIfInBounds_toArray, List.set_cons_zero, List.set_cons_succ, List.getElem_toArray, List.getElem_cons_succ, List.getElem_cons_zero]
          have ho2 : OB w2 w1.heap.size 5 A2 c2 (encU f i) := HO.out.stay hr2 (Nat.le_refl _)
          refine wpAnyH_ready (rs := [7]) (by kernel_rfl) (by simp) (AllReadyH.cons rfl (fun K hK => ?_) AllReadyH.nil)
          rw [if_pos (by kernel_rfl)]
          refine op_app (.tmp 44) (.tmp 50) 22 5 rfl Try.underlying22 byInfo w1.heap.size (encU f i) _ _ _ rfl HL.out ho2 (putB x) _ _ _ _ rfl rfl hoP.rb (by have := HPL.out; have := HUL.out; omega) (Nat.le_trans hbel.size hr2.size) ?_
          intro A3 c3 w3 ho3 hg3 hb3
          have hk3 : Below w1.heap.size wr w3 := hk2.trans hb3
          refine hK.out _ _ (HKEEP.out _ hk3) (fun hHeld => ?_)
          clear hK K
          try simp only [Act.put, List.setIfInBounds_toArray, List.set_cons_zero, List.set_cons_succ, List.getElem_toArray, List.getElem_cons_succ, List.getElem_cons_zero]
          refine wpAnyH_ready (rs := [12]) (by kernel_rfl) (by simp) (AllReadyH.cons rfl (fun K hK => ?_) AllReadyH.nil)
          rw [if_pos (by kernel_rfl)]
          go_simp
          refine (HTXT.out _).mono ?_
          rintro e w4 ⟨gT, cT, rfl, hoT, hgT, hgT2, hb4⟩
          try dsimp only
          have hk4 : Below w1.heap.size wr w4 := hk3.trans (hb4.mono (Nat.le_trans hbel.size hk3.size))
          refine hK.out _ _ (HKEEP.out _ hk4) (fun hHeld => ?_)
          clear hK K
          try simp only [Act.put, List.setIfInBounds_toArray, List.set_cons_zero, List.set_cons_succ, List.getElem_toArray, List.getElem_cons_succ, List.getElem_cons_zero]
          refine wpAnyH_ready (rs := [13]) (by kernel_rfl) (by simp) (AllReadyH.cons rfl (fun K hK => ?_) AllReadyH.nil)
          rw [if_pos (by kernel_rfl)]
          refine op_app (.tmp 51) (.tmp 56) 22 5 rfl Try.underlying22 byInfo w1.heap.size (encU f i ++ putB x) _ _ _ rfl List.length_append (ho3.stay hb4 (Nat.le_refl _)) (textB s) _ _ _ _ rfl rfl hoT.rb (by have := HPL.out; have := HTL.out; have := HUL.out; rw [List.length_append]; omega) (Nat.le_trans hbel.size hk4.size) ?_
          intro A5 c5 w5 ho5 hg5 hb5
          have hk5 : Below w1.heap.size wr w5 := hk4.trans hb5
          refine hK.out _ _ (HKEEP.out _ hk5) (fun hHeld => ?_)
          clear hK K
          try simp only [Act.put, List.setIfInBounds_toArray, List.set_cons_zero, List.set_cons_succ, List.getElem_toArray, List.getElem_cons_succ, List.getElem_cons_zero]
          refine take_at (some 6) (i := 14) (v := ?_) rfl rfl (by kernel_rfl) (by kernel_rfl) (by kernel_rfl) (fun _ _ _ h => h) (Or.inl ⟨by kernel_rfl, ?_⟩) hHeld ?_
          rotate_left
          · intro w hSw; go_simp; try (with_reducible rfl)
          try simp only [Act.put, List.setIfInBounds_toArray, List.set_cons_zero, List.set_cons_succ, List.getElem_toArray, List.getElem_cons_succ, List.getElem_cons_zero]
          refine wpAnyH_done (by kernel_rfl) ?_ _
          clear hHeld hg3 hg5 hb3 hb4 hb5 hoP hoT ho2 ho3
          go_wp2_with fail
          go_roundw
          case rel => exact ⟨i + 1, _, c5, A5, by go_num, by omega, by omega, rfl, Lib.hid (by rw [HE.out, List.length_append, List.length_append]; omega), Lib.hid (by rw [HE.out]; exact ho5), hbel.trans hk5, Lib.hid (fun j hj => by
            by_cases hji : j < i
            · exact HSM.out j hji
            · have : j = i := by omega
              rw [this, ← HSS.out]; omega)⟩
          case measure => simp [intOf]; omega
      · have hbWr : Below W.heap.size W wr := hbW
        go_wp2_with fail
        go_loopw [6, 8] (fun v6 v8 wq => ∃ (j L3 c3 : Nat) (A3 : Option Addr), v8 = .int .i64 j ∧ j ≤ i ∧ v6 = .slice A3 L3 c3 ∧ Hid ((encR f j (i - j)).length = L3) ∧ Hid (OB wq w1.heap.size 5 A3 c3 (encR f j (i - j))) ∧ Below w1.heap.size w1 wq) (fun _ v8 _ => i - (intOf v8).toNat)
        case atStart => exact ⟨0, L2, c2, A2, rfl, by omega, rfl, Lib.hid (by have := HL.out; rw [encU_all] at this; exact this), Lib.hid (by have := HO.out; rw [encU_all] at this; exact this), hbel⟩
        case round =>
          obtain ⟨j, L3, c3, A3, rfl, hji, rfl, HL3, HO3, hbel3⟩ := hrel
          have hbq : Below W.heap.size W wr := hb1.trans (hbel3.mono hb1.size)
          by_cases hj : j < i
          · have hjn : j < n := by omega
            have hjn' : j < n' := by omega
            obtain ⟨bA, oA, rfl, hbA, hcA⟩ : ∃ b o, A = some ⟨b, o, none⟩ ∧ b < W.heap.size ∧ wr.cell? ⟨b, o + j, none⟩ = some (.int .u32 ((ln.getD j 0).toNat : Int)) := by
              rcases HN.out.at_ with h | ⟨b, o, e, hb, hc⟩
              · omega
              · have hil : j < ln.length := by rw [HN.out.len]; exact hjn
                refine ⟨b, o, e, hb, ?_⟩
                rw [hbq.cell (p := ⟨b, o + j, none⟩) hb, hc j hil]
                have := HWF.out _ (List.getElem_mem hil)
                simp [List.getD, hil]; omega
            obtain ⟨bS, oS, rfl, hbS, hcS⟩ : ∃ b o, A' = some ⟨b, o, none⟩ ∧ b < W.heap.size ∧ wr.cell? ⟨b, o + j, none⟩ = some (.string (ls.getD j ⟨#[]⟩)) := by
              rcases HS.out.at_ with h | ⟨b, o, e, hb, hc⟩
              · omega
              · have hil : j < ls.length := by rw [HS.out.len]; exact hjn'
                refine ⟨b, o, e, hb, ?_⟩
                rw [hbq.cell (p := ⟨b, o + j, none⟩) hb, hc j hil]
                simp [List.getD, hil]
            have hs255 := HSM.out j hj
            have hx0 : (ln.getD j 0).toNat ≤ 4294967295 := by
              have hil : j < ln.length := by rw [HN.out.len]; exact hjn
              have := HWF.out _ (List.getElem_mem hil)
              simp [List.getD, hil]; omega
            have hfj : f j = putB (ln.getD j 0).toNat ++ textB (ls.getD j ⟨#[]⟩) := by rw [HF.out]; rfl
            have hbA2 : bA < w1.heap.size := Nat.lt_of_lt_of_le hbA hb1.size
            have hbS2 : bS < w1.heap.size := Nat.lt_of_lt_of_le hbS hb1.size
            generalize (ln.getD j 0).toNat = x at hcA hx0 hfj
            generalize ls.getD j ⟨#[]⟩ = s at hcS hs255 hfj
            obtain ⟨rest, hrest⟩ : ∃ r, r = encR f (j + 1) (i - (j + 1)) := ⟨_, rfl⟩
            have hE : encR f j (i - j) = putB x ++ (textB s ++ rest) := by
              rw [show i - j = (i - (j + 1)) + 1 by omega, encR, ← hrest, hfj, List.append_assoc]
            have hRL : rest.length ≤ 100 * 33554690 := by
              rw [hrest]
              refine Nat.le_trans (encR_len f 33554690 _ _ (fun j _ _ => HFL.out j)) (Nat.mul_le_mul_right _ (by omega))
            obtain ⟨p, hp⟩ : ∃ p, (putB x).length = p := ⟨_, rfl⟩
            have hp1 : 1 ≤ p := by rw [← hp, putB_eq]; simp
            have hp2 : p ≤ 33554434 := by rw [← hp]; exact putB_len13 x hx0
            have htx : textB s = UInt8.ofNat s.size :: s.data.toList := by rw [textB, if_pos hs255]
            have htl : (textB s).length = s.size + 1 := by rw [htx]; rfl
            obtain ⟨l2, hl2⟩ : ∃ l2, l2 = textB s ++ rest := ⟨_, rfl⟩
            have hl2l : l2.length = s.size + 1 + rest.length := by rw [hl2, List.length_append, htl]
            rw [← hl2] at hE
            have hL3 : L3 = p + l2.length := by rw [← HL3.out, hE, List.length_append, hp]
            have HO4 := Lib.hid (show OB wr w1.heap.size 5 A3 c3 (putB x ++ l2) by rw [← hE]; exact HO3.out)
            have hcap := HO4.out.cap
            rw [List.length_append, hp] at hcap
            obtain ⟨g3, rfl, hg3a, hg3b⟩ := HO4.out.form (by rw [putB_eq]; simp)
            have HGB := Lib.hid (show getS (putB x ++ l2) = some (x, p) by rw [← hp]; exact get_back x l2 (by omega))
            have HRD := Lib.hid (show readS l2 = some s.data.toList by rw [hl2, htx]; exact read_back s.data.toList rest (by show s.size ≤ 255; omega))
            have HDR := Lib.hid (show (putB x ++ l2).drop p = l2 by rw [← hp]; simp)
            have HDR2 := Lib.hid (show l2.drop (s.size + 1) = rest by rw [hl2, ← htl]; simp)
            have HPL := Lib.hid hp
            have HLL := Lib.hid hl2l
            have HRS := Lib.hid hrest
            have Q1 : ¬ c3 = p := by omega
            have Q2 : p ≤ L3 := by omega
            have Q3 : L3 ≤ c3 := by omega
            have Q4 : c3 ≤ 9223372036854775807 := hcap.2
            have Q5 : L3 - p = l2.length := by omega
            have HQ5 := Lib.hid Q5
            have HL3e := Lib.hid hL3
            have e1 : ((x : Int) != (x : Int)) = false := by simp
            have hwr1 : IntKind.i64.wrap (x : Int) = (x : Int) := IntWalk.i64_in _ (by omega)
            have e2 : (s.toList != s.toList) = false := by simp
            have e3 : decide ((p : Int) < 1) = false := by simp; omega
            have e4 : decide (L3 < p) = false := by simp; omega
            clear hp htx htl hl2 hl2l hE hL3 hcap hfj hrest Q5 HO3 HL3
            go_wp2_with fail
            refine (get_ok _ (putB x ++ l2) _ c3 wr HO4.out.rb (by rw [List.length_append, HPL.out, HLL.out]; omega) (by rw [List.length_append, HPL.out, HL3e.out])).mono ?_
            rw [HGB.out]
            simp only [numE]
            rintro e w2 ⟨rfl, hb2⟩
            have hk2 : Below w1.heap.size w1 w2 := hbel3.trans (hb2.mono hbel3.size)
            have hcA2 : w2.cell? ⟨bA, oA + j, none⟩ = some (.int .u32 (x : Int)) := (hb2.cell (p := ⟨bA, oA + j, none⟩) (Nat.lt_of_lt_of_le hbA2 hbel3.size)).trans hcA
            have hcS2 : w2.cell? ⟨bS, oS + j, none⟩ = some (.string s) := (hb2.cell (p := ⟨bS, oS + j, none⟩) (Nat.lt_of_lt_of_le hbS2 hbel3.size)).trans hcS
            have HR2 := Lib.hid (show Rb w2 w2.heap.size (some ⟨g3, p, none⟩) l2 by
              have := ((HO4.out.stay hb2 (Nat.le_refl _)).rb).drop (k := p)
              rw [HDR.out] at this; exact this)
            have HMK := Lib.hid (show OB (w2.alloc (.cells #[] 5)) w1.heap.size 5 (some ⟨w2.heap.size, 0, none⟩) 0 [] from OB.new (l := []) 5 hk2.size (by simp))
            have hbm : Below w2.heap.size w2 (w2.alloc (.cells #[] 5)) := (Below.refl w2.heap.size w2).alloc (Nat.le_refl _) _
            have hbm1 : Below w1.heap.size w2 (w2.alloc (.cells #[] 5)) := hbm.mono hk2.size
            clear hb2 hcA hcS
            go_wp2_with (first
              | (at_builtin; refine wp_app_any rfl (.tmp 97) (.tmp 100) 22 5 rfl Try.underlying22 byInfo w1.heap.size [] _ _ _ rfl rfl HMK.out l2 _ _ _ _ rfl HQ5.out.symm (by intro h; cases h) (HR2.out.below hbm (Nat.le_refl _)) (by have := HLL.out; simp only [List.length_nil]; omega) (Nat.le_trans hk2.size hbm.size) ?_; intro A5 c5 w5 ho5 hg5 hb5)
              | fail)
            have hcap5 := ho5.cap
            have ho5' : OB w5 w1.heap.size 5 A5 c5 l2 := ho5
            rw [List.nil_append, HLL.out] at hcap5
            have hk5 : Below w1.heap.size w1 w5 := hk2.trans (hbm1.trans hb5)
            have hcA5 : w5.cell? ⟨bA, oA + j, none⟩ = some (.int .u32 (x : Int)) := ((hbm1.trans hb5).cell (p := ⟨bA, oA + j, none⟩) hbA2).trans hcA2
            have hcS5 : w5.cell? ⟨bS, oS + j, none⟩ = some (.string s) := ((hbm1.trans hb5).cell (p := ⟨bS, oS + j, none⟩) hbS2).trans hcS2
            obtain ⟨g5, rfl, hg5a, hg5b⟩ := ho5'.form (by intro h; have := HLL.out; rw [h] at this; simp at this; omega)
            have HO5 := Lib.hid ho5'
            clear hcA2 hcS2 hbm hbm1 hb5 hg5 ho5 ho5'
            refine (read_ok _ l2 _ c5 w5 HO5.out.rb (by rw [HLL.out]; omega) rfl).mono ?_
            rw [HRD.out]
            simp only [readE]
            obtain ⟨q, hq⟩ : ∃ q, q = s.size + 1 := ⟨_, rfl⟩
            have hqi : (1 + (s.size : Int)) = (q : Int) := by omega
            rw [show (⟨s.data.toList.toArray⟩ : ByteArray) = s by cases s; simp, show s.data.toList.length = s.size from rfl, hqi]
            rintro e w6 ⟨rfl, hb6⟩
            have hk6 : Below w1.heap.size w1 w6 := hk5.trans (hb6.mono hk5.size)
            have hcS6 : w6.cell? ⟨bS, oS + j, none⟩ = some (.string s) := (hb6.cell (p := ⟨bS, oS + j, none⟩) (Nat.lt_of_lt_of_le hbS2 hk5.size)).trans hcS5
            have HMK2 := Lib.hid (show OB (w6.alloc (.cells #[] 5)) w1.heap.size 5 (some ⟨w6.heap.size, 0, none⟩) 0 [] from OB.new (l := []) 5 hk6.size (by simp))
            have hbn : Below w6.heap.size w6 (w6.alloc (.cells #[] 5)) := (Below.refl w6.heap.size w6).alloc (Nat.le_refl _) _
            have hbn1 : Below w1.heap.size w6 (w6.alloc (.cells #[] 5)) := hbn.mono hk6.size
            have hLq : l2.length = q + rest.length := by have := HLL.out; omega
            have HRL := Lib.hid hRL
            have HDQ := Lib.hid (show l2.drop q = rest by rw [hq]; exact HDR2.out)
            have e5 : decide ((q : Int) < 1) = false := by simp; omega
            have e6 : decide (l2.length < q) = false := by simp; omega
            have U2 : q ≤ l2.length := by omega
            have U3 : l2.length ≤ c5 := by omega
            have U4 : c5 ≤ 9223372036854775807 := hcap5.2
            have HQ6 := Lib.hid (show l2.length - q = rest.length by omega)
            have HO6 := Lib.hid (show OB w6 w1.heap.size 5 (some ⟨g5, 0, none⟩) c5 l2 from HO5.out.stay hb6 (Nat.le_refl _))
            have hLc : ¬ c5 = q ∨ (c5 = q ∧ rest = []) := by
              by_cases h : c5 = q
              · exact .inr ⟨h, List.eq_nil_of_length_eq_zero (by omega)⟩
              · exact .inl h
            clear hb6 hcS5 hqi hq hLq hRL hcap5
            rcases hLc with U1 | ⟨hc5, hrn⟩
            · have HR6 := Lib.hid (show Rb w6 w6.heap.size (some ⟨g5, q, none⟩) rest by
                have := HO6.out.rb.drop (k := q)
                rw [HDQ.out] at this; exact this)
              go_wp2_with (first
                | (at_builtin; refine wp_app_any rfl (.tmp 128) (.tmp 131) 22 5 rfl Try.underlying22 byInfo w1.heap.size [] _ _ _ rfl rfl HMK2.out rest _ _ _ _ rfl HQ6.out.symm (by intro h; cases h) (HR6.out.below hbn (Nat.le_refl _)) (by have := HRL.out; simp only [List.length_nil]; omega) (Nat.le_trans hk6.size hbn.size) ?_; intro A7 c7 w7 ho7 hg7 hb7)
                | fail)
              go_roundw
              case rel => exact ⟨j + 1, _, c7, A7, by go_num, by omega, rfl, Lib.hid (by rw [← HRS.out]), Lib.hid (by rw [← HRS.out]; exact ho7), hk6.trans (hbn1.trans hb7)⟩
              case measure => simp [intOf]; omega
            · subst hc5
              have HR6 := Lib.hid (show Rb w6 w6.heap.size (some ⟨g5, 0, none⟩) rest from .inl hrn)
              go_wp2_with (first
                | (at_builtin; refine wp_app_any rfl (.tmp 128) (.tmp 131) 22 5 rfl Try.underlying22 byInfo w1.heap.size [] _ _ _ rfl rfl HMK2.out rest _ _ _ _ rfl (by have h0 : rest.length = 0 := List.length_eq_zero_iff.2 hrn; omega) (by intro h; cases h) (HR6.out.below hbn (Nat.le_refl _)) (by have := HRL.out; simp only [List.length_nil]; omega) (Nat.le_trans hk6.size hbn.size) ?_; intro A7 c7 w7 ho7 hg7 hb7)
                | fail)
              go_roundw
              case rel => exact ⟨j + 1, _, c7, A7, by go_num, by omega, rfl, Lib.hid (by rw [← HRS.out]; exact List.length_eq_zero_iff.2 hrn), Lib.hid (by rw [← HRS.out]; exact ho7), hk6.trans (hbn1.trans hb7)⟩
              case measure => simp [intOf]; omega
          · have hz : ((L3 : Int) == 0) = true := beq_iff_eq.2 (by have := HL3.out; rw [show i - j = 0 by omega] at this; simp [encR] at this; omega)
            go_wp2
            go_ret
            exact ⟨rfl, hbq⟩

    · have hbWr : Below W.heap.size W wr := hbW
      go_wp2_with fail
      go_loopw [6, 8] (fun v6 v8 wq => ∃ (j L3 c3 : Nat) (A3 : Option Addr), v8 = .int .i64 j ∧ j ≤ i ∧ v6 = .slice A3 L3 c3 ∧ Hid ((encR f j (i - j)).length = L3) ∧ Hid (OB wq w1.heap.size 5 A3 c3 (encR f j (i - j))) ∧ Below w1.heap.size w1 wq) (fun _ v8 _ => i - (intOf v8).toNat)
      case atStart => exact ⟨0, L2, c2, A2, rfl, by omega, rfl, Lib.hid (by have := HL.out; rw [encU_all] at this; exact this), Lib.hid (by have := HO.out; rw [encU_all] at this; exact this), hbel⟩
      case round =>
        obtain ⟨j, L3, c3, A3, rfl, hji, rfl, HL3, HO3, hbel3⟩ := hrel
        have hbq : Below W.heap.size W wr := hb1.trans (hbel3.mono hb1.size)
        by_cases hj : j < i
        · have hjn : j < n := by omega
          have hjn' : j < n' := by omega
          obtain ⟨bA, oA, rfl, hbA, hcA⟩ : ∃ b o, A = some ⟨b, o, none⟩ ∧ b < W.heap.size ∧ wr.cell? ⟨b, o + j, none⟩ = some (.int .u32 ((ln.getD j 0).toNat : Int)) := by
            rcases HN.out.at_ with h | ⟨b, o, e, hb, hc⟩
            · omega
            · have hil : j < ln.length := by rw [HN.out.len]; exact hjn
              refine ⟨b, o, e, hb, ?_⟩
              rw [hbq.cell (p := ⟨b, o + j, none⟩) hb, hc j hil]
              have := HWF.out _ (List.getElem_mem hil)
              simp [List.getD, hil]; omega
          obtain ⟨bS, oS, rfl, hbS, hcS⟩ : ∃ b o, A' = some ⟨b, o, none⟩ ∧ b < W.heap.size ∧ wr.cell? ⟨b, o + j, none⟩ = some (.string (ls.getD j ⟨#[]⟩)) := by
            rcases HS.out.at_ with h | ⟨b, o, e, hb, hc⟩
            · omega
            · have hil : j < ls.length := by rw [HS.out.len]; exact hjn'
              refine ⟨b, o, e, hb, ?_⟩
              rw [hbq.cell (p := ⟨b, o + j, none⟩) hb, hc j hil]
              simp [List.getD, hil]
          have hs255 := HSM.out j hj
          have hx0 : (ln.getD j 0).toNat ≤ 4294967295 := by
            have hil : j < ln.length := by rw [HN.out.len]; exact hjn
            have := HWF.out _ (List.getElem_mem hil)
            simp [List.getD, hil]; omega
          have hfj : f j = putB (ln.getD j 0).toNat ++ textB (ls.getD j ⟨#[]⟩) := by rw [HF.out]; rfl
          have hbA2 : bA < w1.heap.size := Nat.lt_of_lt_of_le hbA hb1.size
          have hbS2 : bS < w1.heap.size := Nat.lt_of_lt_of_le hbS hb1.size
          generalize (ln.getD j 0).toNat = x at hcA hx0 hfj
          generalize ls.getD j ⟨#[]⟩ = s at hcS hs255 hfj
          obtain ⟨rest, hrest⟩ : ∃ r, r = encR f (j + 1) (i - (j + 1)) := ⟨_, rfl⟩
          have hE : encR f j (i - j) = putB x ++ (textB s ++ rest) := by
            rw [show i - j = (i - (j + 1)) + 1 by omega, encR, ← hrest, hfj, List.append_assoc]
          have hRL : rest.length ≤ 100 * 33554690 := by
            rw [hrest]
            refine Nat.le_trans (encR_len f 33554690 _ _ (fun j _ _ => HFL.out j)) (Nat.mul_le_mul_right _ (by omega))
          obtain ⟨p, hp⟩ : ∃ p, (putB x).length = p := ⟨_, rfl⟩
          have hp1 : 1 ≤ p := by rw [← hp, putB_eq]; simp
          have hp2 : p ≤ 33554434 := by rw [← hp]; exact putB_len13 x hx0
          have htx : textB s = UInt8.ofNat s.size :: s.data.toList := by rw [textB, if_pos hs255]
          have htl : (textB s).length = s.size + 1 := by rw [htx]; rfl
          obtain ⟨l2, hl2⟩ : ∃ l2, l2 = textB s ++ rest := ⟨_, rfl⟩
          have hl2l : l2.length = s.size + 1 + rest.length := by rw [hl2, List.length_append, htl]
          rw [← hl2] at hE
          have hL3 : L3 = p + l2.length := by rw [← HL3.out, hE, List.length_append, hp]
          have HO4 := Lib.hid (show OB wr w1.heap.size 5 A3 c3 (putB x ++ l2) by rw [← hE]; exact HO3.out)
          have hcap := HO4.out.cap
          rw [List.length_append, hp] at hcap
          obtain ⟨g3, rfl, hg3a, hg3b⟩ := HO4.out.form (by rw [putB_eq]; simp)
          have HGB := Lib.hid (show getS (putB x ++ l2) = some (x, p) by rw [← hp]; exact get_back x l2 (by omega))
          have HRD := Lib.hid (show readS l2 = some s.data.toList by rw [hl2, htx]; exact read_back s.data.toList rest (by show s.size ≤ 255; omega))
          have HDR := Lib.hid (show (putB x ++ l2).drop p = l2 by rw [← hp]; simp)
          have HDR2 := Lib.hid (show l2.drop (s.size + 1) = rest by rw [hl2, ← htl]; simp)
          have HPL := Lib.hid hp
          have HLL := Lib.hid hl2l
          have HRS := Lib.hid hrest
          have Q1 : ¬ c3 = p := by omega
          have Q2 : p ≤ L3 := by omega
          have Q3 : L3 ≤ c3 := by omega
          have Q4 : c3 ≤ 9223372036854775807 := hcap.2
          have Q5 : L3 - p = l2.length := by omega
          have HQ5 := Lib.hid Q5
          have HL3e := Lib.hid hL3
          have e1 : ((x : Int) != (x : Int)) = false := by simp
          have hwr1 : IntKind.i64.wrap (x : Int) = (x : Int) := IntWalk.i64_in _ (by omega)
          have e2 : (s.toList != s.toList) = false := by simp
          have e3 : decide ((p : Int) < 1) = false := by simp; omega
          have e4 : decide (L3 < p) = false := by simp; omega
          clear hp htx htl hl2 hl2l hE hL3 hcap hfj hrest Q5 HO3 HL3
          go_wp2_with fail
          refine (get_ok _ (putB x ++ l2) _ c3 wr HO4.out.rb (by rw [List.length_append, HPL.out, HLL.out]; omega) (by rw [List.length_append, HPL.out, HL3e.out])).mono ?_
          rw [HGB.out]
          simp only [numE]
          rintro e w2 ⟨rfl, hb2⟩
          have hk2 : Below w1.heap.size w1 w2 := hbel3.trans (hb2.mono hbel3.size)
          have hcA2 : w2.cell? ⟨bA, oA + j, none⟩ = some (.int .u32 (x : Int)) := (hb2.cell (p := ⟨bA, oA + j, none⟩) (Nat.lt_of_lt_of_le hbA2 hbel3.size)).trans hcA
          have hcS2 : w2.cell? ⟨bS, oS + j, none⟩ = some (.string s) := (hb2.cell (p := ⟨bS, oS + j, none⟩) (Nat.lt_of_lt_of_le hbS2 hbel3.size)).trans hcS
          have HR2 := Lib.hid (show Rb w2 w2.heap.size (some ⟨g3, p, none⟩) l2 by
            have := ((HO4.out.stay hb2 (Nat.le_refl _)).rb).drop (k := p)
            rw [HDR.out] at this; exact this)
          have HMK := Lib.hid (show OB (w2.alloc (.cells #[] 5)) w1.heap.size 5 (some ⟨w2.heap.size, 0, none⟩) 0 [] from OB.new (l := []) 5 hk2.size (by simp))
          have hbm : Below w2.heap.size w2 (w2.alloc (.cells #[] 5)) := (Below.refl w2.heap.size w2).alloc (Nat.le_refl _) _
          have hbm1 : Below w1.heap.size w2 (w2.alloc (.cells #[] 5)) := hbm.mono hk2.size
          clear hb2 hcA hcS
          go_wp2_with (first
            | (at_builtin; refine wp_app_any rfl (.tmp 97) (.tmp 100) 22 5 rfl Try.underlying22 byInfo w1.heap.size [] _ _ _ rfl rfl HMK.out l2 _ _ _ _ rfl HQ5.out.symm (by intro h; cases h) (HR2.out.below hbm (Nat.le_refl _)) (by have := HLL.out; simp only [List.length_nil]; omega) (Nat.le_trans hk2.size hbm.size) ?_; intro A5 c5 w5 ho5 hg5 hb5)
            | fail)
          have hcap5 := ho5.cap
          have ho5' : OB w5 w1.heap.size 5 A5 c5 l2 := ho5
          rw [List.nil_append, HLL.out] at hcap5
          have hk5 : Below w1.heap.size w1 w5 := hk2.trans (hbm1.trans hb5)
          have hcA5 : w5.cell? ⟨bA, oA + j, none⟩ = some (.int .u32 (x : Int)) := ((hbm1.trans hb5).cell (p := ⟨bA, oA + j, none⟩) hbA2).trans hcA2
          have hcS5 : w5.cell? ⟨bS, oS + j, none⟩ = some (.string s) := ((hbm1.trans hb5).cell (p := ⟨bS, oS + j, none⟩) hbS2).trans hcS2
          obtain ⟨g5, rfl, hg5a, hg5b⟩ := ho5'.form (by intro h; have := HLL.out; rw [h] at this; simp at this; omega)
          have HO5 := Lib.hid ho5'
          clear hcA2 hcS2 hbm hbm1 hb5 hg5 ho5 ho5'
          refine (read_ok _ l2 _ c5 w5 HO5.out.rb (by rw [HLL.out]; omega) rfl).mono ?_
          rw [HRD.out]
          simp only [readE]
          obtain ⟨q, hq⟩ : ∃ q, q = s.size + 1 := ⟨_, rfl⟩
          have hqi : (1 + (s.size : Int)) = (q : Int) := by omega
          rw [show (⟨s.data.toList.toArray⟩ : ByteArray) = s by cases s; simp, show s.data.toList.length = s.size from rfl, hqi]
          rintro e w6 ⟨rfl, hb6⟩
          have hk6 : Below w1.heap.size w1 w6 := hk5.trans (hb6.mono hk5.size)
          have hcS6 : w6.cell? ⟨bS, oS + j, none⟩ = some (.string s) := (hb6.cell (p := ⟨bS, oS + j, none⟩) (Nat.lt_of_lt_of_le hbS2 hk5.size)).trans hcS5
          have HMK2 := Lib.hid (show OB (w6.alloc (.cells #[] 5)) w1.heap.size 5 (some ⟨w6.heap.size, 0, none⟩) 0 [] from OB.new (l := []) 5 hk6.size (by simp))
          have hbn : Below w6.heap.size w6 (w6.alloc (.cells #[] 5)) := (Below.refl w6.heap.size w6).alloc (Nat.le_refl _) _
          have hbn1 : Below w1.heap.size w6 (w6.alloc (.cells #[] 5)) := hbn.mono hk6.size
          have hLq : l2.length = q + rest.length := by have := HLL.out; omega
          have HRL := Lib.hid hRL
          have HDQ := Lib.hid (show l2.drop q = rest by rw [hq]; exact HDR2.out)
          have e5 : decide ((q : Int) < 1) = false := by simp; omega
          have e6 : decide (l2.length < q) = false := by simp; omega
          have U2 : q ≤ l2.length := by omega
          have U3 : l2.length ≤ c5 := by omega
          have U4 : c5 ≤ 9223372036854775807 := hcap5.2
          have HQ6 := Lib.hid (show l2.length - q = rest.length by omega)
          have HO6 := Lib.hid (show OB w6 w1.heap.size 5 (some ⟨g5, 0, none⟩) c5 l2 from HO5.out.stay hb6 (Nat.le_refl _))
          have hLc : ¬ c5 = q ∨ (c5 = q ∧ rest = []) := by
            by_cases h : c5 = q
            · exact .inr ⟨h, List.eq_nil_of_length_eq_zero (by omega)⟩
            · exact .inl h
          clear hb6 hcS5 hqi hq hLq hRL hcap5
          rcases hLc with U1 | ⟨hc5, hrn⟩
          · have HR6 := Lib.hid (show Rb w6 w6.heap.size (some ⟨g5, q, none⟩) rest by
              have := HO6.out.rb.drop (k := q)
              rw [HDQ.out] at this; exact this)
            go_wp2_with (first
              | (at_builtin; refine wp_app_any rfl (.tmp 128) (.tmp 131) 22 5 rfl Try.underlying22 byInfo w1.heap.size [] _ _ _ rfl rfl HMK2.out rest _ _ _ _ rfl HQ6.out.symm (by intro h; cases h) (HR6.out.below hbn (Nat.le_refl _)) (by have := HRL.out; simp only [List.length_nil]; omega) (Nat.le_trans hk6.size hbn.size) ?_; intro A7 c7 w7 ho7 hg7 hb7)
              | fail)
            go_roundw
            case rel => exact ⟨j + 1, _, c7, A7, by go_num, by omega, rfl, Lib.hid (by rw [← HRS.out]), Lib.hid (by rw [← HRS.out]; exact ho7), hk6.trans (hbn1.trans hb7)⟩
            case measure => simp [intOf]; omega
          · subst hc5
            have HR6 := Lib.hid (show Rb w6 w6.heap.size (some ⟨g5, 0, none⟩) rest from .inl hrn)
            go_wp2_with (first
              | (at_builtin; refine wp_app_any rfl (.tmp 128) (.tmp 131) 22 5 rfl Try.underlying22 byInfo w1.heap.size [] _ _ _ rfl rfl HMK2.out rest _ _ _ _ rfl (by have h0 : rest.length = 0 := List.length_eq_zero_iff.2 hrn; omega) (by intro h; cases h) (HR6.out.below hbn (Nat.le_refl _)) (by have := HRL.out; simp only [List.length_nil]; omega) (Nat.le_trans hk6.size hbn.size) ?_; intro A7 c7 w7 ho7 hg7 hb7)
              | fail)
            go_roundw
            case rel => exact ⟨j + 1, _, c7, A7, by go_num, by omega, rfl, Lib.hid (by rw [← HRS.out]; exact List.length_eq_zero_iff.2 hrn), Lib.hid (by rw [← HRS.out]; exact ho7), hk6.trans (hbn1.trans hb7)⟩
            case measure => simp [intOf]; omega
        · have hz : ((L3 : Int) == 0) = true := beq_iff_eq.2 (by have := HL3.out; rw [show i - j = 0 by omega] at this; simp [encR] at this; omega)
          go_wp2
          go_ret
          exact ⟨rfl, hbq⟩

end Go.Proofs.Ytmonemmeccgldaa
