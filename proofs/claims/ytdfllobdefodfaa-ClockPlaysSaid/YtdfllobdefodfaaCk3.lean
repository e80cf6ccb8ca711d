/- heap's up and down. -/
import Derived.Test.YtdfllobdefodfaaCk2
namespace Go.Proofs.Ytdfllobdefodfaa
set_option linter.unusedVariables false
set_option linter.unusedSimpArgs false
open Go.RowKit

variable {u : World} {F : List Nat} {c : Nat} {now : Int} {mb : Nat} {A : Option Addr} {cap : Nat} {l : List Al}

/-- What a round of up, of down keeps. -/
structure Kp (u wr : World) (F : List Nat) (c : Nat) (now : Int) (mb : Nat) (A : Option Addr) (cap : Nat) (l l' : List Al) : Prop where
  h : Hp wr F c now mb A cap l'
  p : l'.Perm l
  k : Ke F u wr

set_option maxRecDepth 100000 in
set_option maxHeartbeats 4000000 in
theorem up_ok (u : World) (h : Hp u F c now mb A cap l) (j n : Nat) (hn : n ≤ l.length) (hj : j < n) (hu : UpInv l n j) :
    Calls Try.prog 30 #[hpv c, .int .i64 (j : Int)] u fun e u' => e = .returned (.tuple #[]) ∧ ∃ l', Kp u u' F c now mb A cap l l' ∧ HeapN l' n ∧ ∀ k, n ≤ k → nth l' k = nth l k := by
  have H := Lib.hid (show Kp u u F c now mb A cap l l ∧ UpInv l n j ∧ ∀ k, n ≤ k → nth l k = nth l k from ⟨⟨h, .refl _, Ke.refl _ _⟩, hu, fun _ _ => rfl⟩)
  have hn2 : n ≤ 1025 := Nat.le_trans hn h.few
  have HN := Lib.hid hn
  clear h hu hn
  go_enter Try.func30, Try.ntmps30
  go_wp2_with fail
  go_loopw [1] (fun v1 wr => ∃ j : Nat, j < n ∧ v1 = .int .i64 (j : Int) ∧ Hid (∃ l', Kp u wr F c now mb A cap l l' ∧ UpInv l' n j ∧ ∀ k, n ≤ k → nth l' k = nth l k)) (fun v1 _ => (intOf v1).toNat)
  case atStart => exact ⟨j, hj, rfl, Lib.hid ⟨l, H.out.1, H.out.2.1, fun _ _ => rfl⟩⟩
  case round =>
    obtain ⟨k, hk, rfl, HR⟩ := hrel
    obtain ⟨l', HK, hu, hfar⟩ := HR.out
    have hl' : n ≤ l'.length := by rw [HK.p.length_eq]; exact HN.out
    have HX := Lib.hid (And.intro HK hfar)
    clear hfar
    by_cases k0 : k = 0
    · have hq : ((k : Int) - 1).tdiv 2 = (k : Int) := by subst k0; rfl
      have HE := Lib.hid (up_stop hu (.inl k0))
      clear HK hu HR hl' k0
      go_wp2_with fail
      go_returns
      exact ⟨rfl, l', HX.out.1, HE.out, HX.out.2⟩
    · obtain ⟨i, hi⟩ : ∃ i, i = (k - 1) / 2 := ⟨_, rfl⟩
      have hq : ((k : Int) - 1).tdiv 2 = (i : Int) := by
        rw [show ((k : Int) - 1) = ((k - 1 : Nat) : Int) by omega, hi]
        rfl
      have hik : i < k := by omega
      have hne : ¬ (i : Int) = (k : Int) := by omega
      have hbe : ((i : Int) == (k : Int)) = false := by simp; omega
      have hin : i < n := by omega
      have HI := Lib.hid hi
      have HH := Lib.hid HK.h
      have HL := Lib.hid hl'
      by_cases hlt : (nth l' k).lt (nth l' i)
      · have HLT := Lib.hid (decide_eq_true hlt)
        have HS := Lib.hid (up_step (by omega) hu hk (by omega) (by rw [← hi]; exact hlt))
        have hm : i < k := hik
        clear HK hu HR hl' hlt hi
        go_wp2_with (first
          | (refine wp_less (by kernel_rfl) (.tmp 12) (.tmp 13) (.tmp 14) rfl rfl k i rfl rfl HH.out (by have := HL.out; omega) (by have := HL.out; omega) true HLT.out ?_; intro w1 hk1 hh1; have H1 := Lib.hid (And.intro hk1 hh1); clear hk1 hh1)
          | (refine wp_swap (by kernel_rfl) (.tmp 18) (.tmp 19) (.tmp 20) rfl rfl i k rfl rfl H1.out.2 (by have := HL.out; omega) (by have := HL.out; omega) (by omega) ?_; intro w2 hk2 hh2; have H2 := Lib.hid (And.intro hk2 hh2); clear hk2 hh2))
        go_roundw
        case rel => exact ⟨i, hin, rfl, Lib.hid ⟨swp l' i k, ⟨H2.out.2, (swp_perm (by have := HL.out; omega) (by have := HL.out; omega)).trans HX.out.1.p, (HX.out.1.k.trans H1.out.1.nil).trans H2.out.1⟩, by have := HS.out; rw [← HI.out] at this; exact this, fun q hq => by rw [nth_swp (by have := HL.out; omega) (by have := HL.out; omega), if_neg (by omega), if_neg (by omega)]; exact HX.out.2 q hq⟩⟩
        case measure => simp [intOf]; omega
      · have HLT := Lib.hid (decide_eq_false hlt)
        have HE := Lib.hid (up_stop hu (.inr (by rw [← hi]; exact hlt)))
        clear HK hu HR hl' hlt hi
        go_wp2_with (first
          | (refine wp_less (by kernel_rfl) (.tmp 12) (.tmp 13) (.tmp 14) rfl rfl k i rfl rfl HH.out (by have := HL.out; omega) (by have := HL.out; omega) false HLT.out ?_; intro w1 hk1 hh1; have H1 := Lib.hid (And.intro hk1 hh1); clear hk1 hh1))
        go_returns
        exact ⟨rfl, l', ⟨H1.out.2, HX.out.1.p, HX.out.1.k.trans H1.out.1.nil⟩, HE.out, HX.out.2⟩
end Go.Proofs.Ytdfllobdefodfaa
