/- The walk of RingOwn. (Written by gen_rgown.py.) -/
import Derived.Test.YtiomfinimbogaaaRgLaw
namespace Go.Proofs.Ytiomfinimbogaaa
set_option linter.unusedVariables false
set_option linter.unusedSimpArgs false
open Go.RowKit

theorem OB.block {w : World} {B : Nat} {e : TypeId} {A : Option Addr} {c : Nat} {l : List UInt8} (h : OB w B e A c l) : l.length = 0 ∨ ∃ g cs, A = some ⟨g, 0, none⟩ ∧ B ≤ g ∧ Bk w g e cs ∧ l.length ≤ cs.size := by
  rcases h.2 with ⟨hv, h0⟩ | ⟨g, cap, cur, hv, hg, hh, hn, hm, hc, _⟩
  · exact .inl h0
  · injection hv with h1 h2 h3
    exact .inr ⟨g, cur, h1, hg, hh, by omega⟩
theorem OB.rf {w : World} {B : Nat} {e : TypeId} {A : Option Addr} {c : Nat} {l : List UInt8} {L : List Nat} (h : OB w B e A c l) (hL : ∀ x ∈ L, x < B) : Rf w L A l := by
  by_cases h0 : l = []
  · exact .inl h0
  · obtain ⟨g, rfl, hg, hl⟩ := h.form h0
    rcases h.rb with h1 | ⟨b, o, e1, _, hc⟩
    · exact absurd h1 h0
    · injection e1 with e1
      injection e1 with e2 e3
      subst e2; subst e3
      exact .inr ⟨g, 0, rfl, fun hx => by have := hL g hx; omega, hl, hc⟩

/-- The n first cells at A are a block's of the law's own, none of the ring's. -/
def Xb (W u : World) (r g n : Nat) (A : Option Addr) : Prop := n = 0 ∨ ∃ b cs, A = some ⟨b, 0, none⟩ ∧ W.heap.size ≤ b ∧ b ≠ r ∧ b ≠ g ∧ Bk u b 5 cs ∧ n ≤ cs.size
theorem Xb.ke {W u u' : World} {r g n : Nat} {A : Option Addr} {L : List Nat} (h : Xb W u r g n A) (k : Ke L u u') (hL : ∀ x ∈ L, x = r ∨ x = g) : Xb W u' r g n A := by
  rcases h with h | ⟨b, cs, h1, h2, h3, h4, h5, h6⟩
  · exact .inl h
  · exact .inr ⟨b, cs, h1, h2, h3, h4, h5.ke k (fun hx => by rcases hL b hx with e | e; exact h3 e; exact h4 e), h6⟩
theorem Rw.far {W u : World} {r g m b i : Nat} {q : List UInt8} (h : Rw W u r g m q) (hb : W.heap.size ≤ b) (hr : b ≠ r) (hg : b ≠ g) (v : Value) : Rw W (u.setCell ⟨b, i, none⟩ v) r g m q :=
  ⟨h.rg.ke (L := [b]) ((Ke.refl [b] u).set (p := ⟨b, i, none⟩) (by simp) v) (by simpa using Ne.symm hr) (by simpa using Ne.symm hg), h.b.setCell (p := ⟨b, i, none⟩) hb v, h.lr, h.lg⟩

set_option maxRecDepth 100000 in
set_option maxHeartbeats 8000000 in
theorem walk_RingOwn (A : Option Addr) (l : List UInt8) (n c : Nat) (x0 : Int) (W : World) (w0 : InB W A l n c) (wx : (Lit.int .u8 x0).wf = true) :
    Calls Try.prog 6 #[.slice A n c, .int .u8 x0] W fun e w' => e = .returned (.bool true) ∧ Below W.heap.size W w' := by
  have hcn := w0.cap
  have hmx := w0.max
  unfold maxLen at hmx
  have HI := Lib.hid w0
  have HNEW := Lib.hid (show ∀ u, Below W.heap.size W u → Calls Try.prog 10 #[.int .i64 100] u fun e u' => ∃ r g, e = .returned (.pointer (some ⟨r, 0, none⟩)) ∧ Rg u' r g 100 [] ∧ Below W.heap.size W u' ∧ Ke [] u u' ∧ u.heap.size ≤ r ∧ u.heap.size ≤ g from fun u h => new_law 100 (by omega) W u h)
  clear w0 wx
  go_enter Try.func6, Try.ntmps6
  go_upto_region 2 with (go_at_call 9; refine (rhead_ok _).mono ?_; rintro e u1 ⟨rfl, hk1⟩)
  have B1 := Lib.hid (Below.ke (Below.refl _ W) hk1 (Nat.le_refl _) (by simp))
  clear hk1
  go_upto_region 3 with (go_at_call 10; refine (HNEW.out _ B1.out).mono ?_; rintro e u2 ⟨r, g, rfl, h1, h2, _, h3, h4⟩)
  have R2 := Lib.hid (Rw.of h1 h2 (Nat.le_trans B1.out.size h3) (Nat.le_trans B1.out.size h4))
  clear h1 h2 h3 h4 B1 HNEW
  by_cases hg : 100 < n
  · have hg2 : (100 : Int) < (n : Int) := by omega
    go_wp2_with fail
    go_ret
    exact ⟨rfl, R2.out.b⟩
  have hg2 : ¬ ((100 : Int) < (n : Int)) := by omega
  have hn1 : n ≤ 100 := by omega
  clear hg
  go_upto_region 6 with (at_builtin; refine wp_app_n rfl (.tmp 25) (.tmp 26) 29 5 rfl Try.underlying29 bytesInfo u2.heap.size [] (some ⟨u2.heap.size, 0, none⟩) 0 0 rfl rfl (OB.new _ _ (Nat.le_refl _) (by simp)) l A n c W.heap.size rfl HI.out.len HI.out.nil_ (HI.out.rb.below (R2.out.b.alloc R2.out.b.size _) (Nat.le_refl _)) (by omega) (by rw [World.size_alloc]; omega) n (by omega) ?_; intro A4 c4 w4 ho4 hg4 hb4)
  have K4 := Ke.of (((Below.refl u2.heap.size u2).alloc (Nat.le_refl _) _).trans hb4)
  rw [List.nil_append] at ho4
  have HRG := R2.out.rg.lt
  have H4 := Lib.hid (show Rw W w4 r g 100 [] ∧ Rf w4 [r, g] A4 l ∧ Xb W w4 r g n A4 ∧ n ≤ c4 ∧ c4 ≤ 9223372036854775807 from
    ⟨R2.out.ke K4, ho4.rf (by simp; omega), by
      rcases ho4.block with h | ⟨b, cs, k1, k2, k3, k4⟩
      · left; rw [← HI.out.len]; exact h
      · right; exact ⟨b, cs, k1, Nat.le_trans R2.out.b.size k2, by omega, by omega, k3, by rw [← HI.out.len]; exact k4⟩, by have := ho4.cap; rw [HI.out.len] at this; exact this.1, ho4.cap.2⟩)
  clear K4 ho4 HRG hb4 hg4 hg2
  go_upto_region 7 with (go_at_call 15; refine (w_add H4.out.1 A4 n c4 l HI.out.len H4.out.2.2.2.1 H4.out.2.2.2.2 H4.out.2.1 100 n rfl (by omega)).mono ?_; rintro e u5 ⟨rfl, k5, h5⟩)
  rw [List.nil_append, List.take_of_length_le (by rw [HI.out.len]; exact hn1)] at h5
  have H5 := Lib.hid (show Rw W u5 r g 100 l ∧ Xb W u5 r g n A4 from ⟨h5, H4.out.2.2.1.ke k5 (by simp)⟩)
  clear k5 h5 H4
  go_wp2_with fail
  go_loopw [8] (fun v8 wr => ∃ i : Nat, i ≤ n ∧ v8 = .int .i64 (i : Int) ∧ Hid (Rw W wr r g 100 l) ∧ Hid (Xb W wr r g n A4)) (fun v8 _ => n - (intOf v8).toNat)
  case atStart => exact ⟨0, by omega, rfl, Lib.hid H5.out.1, Lib.hid H5.out.2⟩
  case round =>
    obtain ⟨i, hi, rfl, HW, HX⟩ := hrel
    clear H5
    by_cases hi1 : i < n
    · have hi2 : (i : Int) < (n : Int) := by omega
      rcases HX.out with h0 | ⟨b, cs, rfl, h1, h2, h3, h4, h5⟩
      · omega
      have hc := h4.cell i
      obtain ⟨vi, hvi⟩ : ∃ vi, cs[i]? = some vi := ⟨_, Array.getElem?_eq_getElem (show i < cs.size by omega)⟩
      rw [hvi] at hc
      have hf := h4.frozen i
      have HW2 := Lib.hid (show Rw W (wr.setCell ⟨b, i, none⟩ (.int .u8 x0)) r g 100 l ∧ Xb W (wr.setCell ⟨b, i, none⟩ (.int .u8 x0)) r g n (some ⟨b, 0, none⟩) from ⟨HW.out.far h1 h2 h3 _, .inr ⟨b, _, rfl, h1, h2, h3, h4.set i _, by rw [Array.size_setIfInBounds]; exact h5⟩⟩)
      clear hvi h1 h2 h3 h4 h5 HX HW
      go_wp2_with fail
      go_roundw
      case rel => exact ⟨i + 1, by omega, by go_num, Lib.hid HW2.out.1, Lib.hid HW2.out.2⟩
      case measure => simp [intOf]; omega
    · have hi2 : ¬ (i : Int) < (n : Int) := by omega
      clear HX
      go_upto_region 12 with (go_at_call 19; refine (w_look HW.out n HI.out.len).mono ?_; rintro e u6 ⟨rfl, hb6, k6, h6⟩)
      obtain ⟨s6, hs6⟩ : ∃ s6, wr.heap.size = s6 := ⟨_, rfl⟩
      have hrl := HW.out.rg.lt
      have hws := HW.out.b.size
      rw [hs6] at hb6 hrl hws ⊢
      have H6 := Lib.hid (show Rw W u6 r g 100 l ∧ Xb W u6 r g n (some ⟨s6, 0, none⟩) from ⟨h6, .inr ⟨s6, _, rfl, hws, by omega, by omega, hb6, by rw [bcells_size, HI.out.len]; exact Nat.le_refl _⟩⟩)
      clear hb6 k6 h6 hrl hws hs6 hi hi1 hi2 HW
      go_wp2_with fail
      go_loopw [10] (fun v10 wr => ∃ i : Nat, i ≤ n ∧ v10 = .int .i64 (i : Int) ∧ Hid (Rw W wr r g 100 l) ∧ Hid (Xb W wr r g n (some ⟨s6, 0, none⟩))) (fun v10 _ => n - (intOf v10).toNat)
      case atStart => exact ⟨0, by omega, rfl, Lib.hid H6.out.1, Lib.hid H6.out.2⟩
      case round =>
        obtain ⟨i, hi, rfl, HW, HX⟩ := hrel
        clear H6
        by_cases hi1 : i < n
        · have hi2 : (i : Int) < (n : Int) := by omega
          rcases HX.out with h0 | ⟨b, cs, e1, h1, h2, h3, h4, h5⟩
          · omega
          injection e1 with e1
          injection e1 with e1
          subst e1
          have hc := h4.cell i
          obtain ⟨vi, hvi⟩ : ∃ vi, cs[i]? = some vi := ⟨_, Array.getElem?_eq_getElem (show i < cs.size by omega)⟩
          rw [hvi] at hc
          have hf := h4.frozen i
          have HW2 := Lib.hid (show Rw W (wr.setCell ⟨s6, i, none⟩ (.int .u8 x0)) r g 100 l ∧ Xb W (wr.setCell ⟨s6, i, none⟩ (.int .u8 x0)) r g n (some ⟨s6, 0, none⟩) from ⟨HW.out.far h1 h2 h3 _, .inr ⟨s6, _, rfl, h1, h2, h3, h4.set i _, by rw [Array.size_setIfInBounds]; exact h5⟩⟩)
          clear hvi h1 h2 h3 h4 h5 HX HW
          go_wp2_with fail
          go_roundw
          case rel => exact ⟨i + 1, by omega, by go_num, Lib.hid HW2.out.1, Lib.hid HW2.out.2⟩
          case measure => simp [intOf]; omega
        · have hi2 : ¬ (i : Int) < (n : Int) := by omega
          clear HX
          go_upto_region 16 with (fail)
          have HR7 := Lib.hid (show Rw W wr.drew r g 100 l from HW.out.ke (Ke.refl _ _).drew)
          have HTK := Lib.hid (show takeM 100 n = n by unfold takeM; omega)
          have hxx : ((bs l).toList == (bs l).toList) = true := beq_self_eq_true _
          try simp only [List.cons_append, List.nil_append]
          refine wp_region_held_drew (S := fun v => Below W.heap.size W v) (by kernel_rfl) (HR7.out.b) (fun hHeld => ?_)
          generalize wr.drew = w7 at HR7 hHeld ⊢
          refine take_at (some 53) (i := 0) (v := ?_) rfl rfl (by kernel_rfl) (by kernel_rfl) (by kernel_rfl) (fun _ _ _ h => h) (Or.inl ⟨by kernel_rfl, ?_⟩) hHeld ?_
          rotate_left
          · intro wz hSw; go_simp; try (with_reducible rfl)
          try simp only [Act.put, List.setIfInBounds_toArray, List.set_cons_zero, List.set_cons_succ, List.getElem_toArray, List.getElem_cons_succ, List.getElem_cons_zero]
          refine take_at (some 54) (i := 1) (v := ?_) rfl rfl (by kernel_rfl) (by kernel_rfl) (by kernel_rfl) (fun _ _ _ h => h) (Or.inl ⟨by kernel_rfl, ?_⟩) hHeld ?_
          rotate_left
          · intro wz hSw; go_simp; try (with_reducible rfl)
          try simp only [Act.put, List.setIfInBounds_toArray, List.set_cons_zero, List.set_cons_succ, List.getElem_toArray, List.getElem_cons_succ, List.getElem_cons_zero]
          refine take_at (some 55) (i := 2) (v := ?_) rfl rfl (by kernel_rfl) (by kernel_rfl) (by kernel_rfl) (fun _ _ _ h => h) (Or.inl ⟨by kernel_rfl, ?_⟩) hHeld ?_
          rotate_left
          · intro wz hSw; go_simp; try (with_reducible rfl)
          try simp only [Act.put, List.setIfInBounds_toArray, List.set_cons_zero, List.set_cons_succ, List.getElem_toArray, List.getElem_cons_succ, List.getElem_cons_zero]
          refine take_at (some 58) (i := 5) (v := ?_) rfl rfl (by kernel_rfl) (by kernel_rfl) (by kernel_rfl) (fun _ _ _ h => h) (Or.inl ⟨by kernel_rfl, ?_⟩) hHeld ?_
          rotate_left
          · intro wz hSw; go_simp; try (with_reducible rfl)
          try simp only [Act.put, List.setIfInBounds_toArray, List.set_cons_zero, List.set_cons_succ, List.getElem_toArray, List.getElem_cons_succ, List.getElem_cons_zero]
          refine take_at (some 59) (i := 6) rfl rfl (by kernel_rfl) (by kernel_rfl) (by kernel_rfl) (fun _ _ _ h => h) (yieldsIf_conv (by kernel_rfl) 29 5 9 (.tmp 58) rfl A n c l rfl HI.out.len (fun w h => HI.out.rb.below h (Nat.le_refl _)) Try.underlying29 Try.underlying5 Try.underlying9) hHeld ?_
          try simp only [Act.put, List.setIfInBounds_toArray, List.set_cons_zero, List.set_cons_succ, List.getElem_toArray, List.getElem_cons_succ, List.getElem_cons_zero]
          refine wpAnyH_ready (rs := [3]) (by kernel_rfl) (by simp) (AllReadyH.cons rfl (fun K hK => ?_) AllReadyH.nil)
          rw [if_pos (by kernel_rfl)]
          go_simp
          refine (w_take HR7.out 100 n n HI.out.len HTK.out).mono ?_
          rintro e w8 ⟨rfl, hb8, k8, h8⟩
          try dsimp only
          refine hK.out _ _ (h8.b) (fun hHeld => ?_)
          try simp only [Act.put, List.setIfInBounds_toArray, List.set_cons_zero, List.set_cons_succ, List.getElem_toArray, List.getElem_cons_succ, List.getElem_cons_zero]
          rw [List.take_of_length_le (Nat.le_of_eq HI.out.len)] at hb8
          generalize hs8 : w7.heap.size = s8 at *
          refine wpAnyH_mono (S' := fun v => Below W.heap.size W v ∧ Rb v (s8 + 1) (some ⟨s8, 0, none⟩) l) (fun _ h => h.1) _ _ _ _ ?_
          replace hHeld : (fun v => Below W.heap.size W v ∧ Rb v (s8 + 1) (some ⟨s8, 0, none⟩) l) w8 := ⟨h8.b, Rb.bk hb8⟩
          refine take_at (some 57) (i := 4) rfl rfl (by kernel_rfl) (by kernel_rfl) (by kernel_rfl) (fun _ _ _ h => h) (yieldsIf_conv (by kernel_rfl) 29 5 9 (.tmp 56) rfl (some ⟨s8, 0, none⟩) n n l rfl HI.out.len (fun w h => h.2) Try.underlying29 Try.underlying5 Try.underlying9) hHeld ?_
          try simp only [Act.put, List.setIfInBounds_toArray, List.set_cons_zero, List.set_cons_succ, List.getElem_toArray, List.getElem_cons_succ, List.getElem_cons_zero]
          refine take_at (some 60) (i := 7) (v := ?_) rfl rfl (by kernel_rfl) (by kernel_rfl) (by kernel_rfl) (fun _ _ _ h => h) (Or.inl ⟨by kernel_rfl, ?_⟩) hHeld ?_
          rotate_left
          · intro wz hSw; go_simp; try (with_reducible rfl)
          try simp only [Act.put, List.setIfInBounds_toArray, List.set_cons_zero, List.set_cons_succ, List.getElem_toArray, List.getElem_cons_succ, List.getElem_cons_zero]
          refine take_at (some 61) (i := 8) (v := ?_) rfl rfl (by kernel_rfl) (by kernel_rfl) (by kernel_rfl) (fun _ _ _ h => h) (Or.inl ⟨by kernel_rfl, ?_⟩) hHeld ?_
          rotate_left
          · intro wz hSw; go_simp; try (with_reducible rfl)
          try simp only [Act.put, List.setIfInBounds_toArray, List.set_cons_zero, List.set_cons_succ, List.getElem_toArray, List.getElem_cons_succ, List.getElem_cons_zero]
          refine take_at (some 4) (i := 9) (v := ?_) rfl rfl (by kernel_rfl) (by kernel_rfl) (by kernel_rfl) (fun _ _ _ h => h) (Or.inl ⟨by kernel_rfl, ?_⟩) hHeld ?_
          rotate_left
          · intro wz hSw; go_simp; try (with_reducible rfl)
          try simp only [Act.put, List.setIfInBounds_toArray, List.set_cons_zero, List.set_cons_succ, List.getElem_toArray, List.getElem_cons_succ, List.getElem_cons_zero]
          refine wpAnyH_done (by kernel_rfl) ?_ _
          clear hHeld
          go_wp2_with fail
          go_ret
          exact ⟨rfl, h8.b⟩
end Go.Proofs.Ytiomfinimbogaaa
