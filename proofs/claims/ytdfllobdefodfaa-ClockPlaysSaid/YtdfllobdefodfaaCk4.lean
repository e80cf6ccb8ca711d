/- heap's down. (Written by gen_ckdown.py.) -/
import Derived.Test.YtdfllobdefodfaaCk3
namespace Go.Proofs.Ytdfllobdefodfaa
set_option linter.unusedVariables false
set_option linter.unusedSimpArgs false
open Go.RowKit

variable {u : World} {F : List Nat} {c : Nat} {now : Int} {mb : Nat} {A : Option Addr} {cap : Nat} {l : List Al}

/-- What down keeps. -/
structure Dk (u wr : World) (F : List Nat) (c : Nat) (now : Int) (mb : Nat) (A : Option Addr) (cap : Nat) (l : List Al) (n i i0 : Nat) (l' : List Al) : Prop where
  kp : Kp u wr F c now mb A cap l l'
  inv : DnInv l' n i i0
  far : ∀ k, n ≤ k → nth l' k = nth l k
theorem Dk.step {u wr w1 w2 w3 : World} {n i j i0 : Nat} {l' : List Al} (h : Dk u wr F c now mb A cap l n i i0 l') (hn : n ≤ l.length) (hj : j < n) (h0 : 0 < j) (hp : (j - 1) / 2 = i) (hk : ∀ k, 0 < k → k < n → (k - 1) / 2 = i → Ord l' j k) (hlt : (nth l' j).lt (nth l' i))
    (k1 : Ke [] wr w1) (k2 : Ke [] w1 w2) (k3 : Ke F w2 w3) (hw : Hp w3 F c now mb A cap (swp l' i j)) : Dk u w3 F c now mb A cap l n j i0 (swp l' i j) := by
  have e := h.kp.p.length_eq
  exact ⟨⟨hw, (swp_perm (by omega) (by omega)).trans h.kp.p, ((h.kp.k.trans k1.nil).trans k2.nil).trans k3⟩, dn_step (by omega) h.inv hj ⟨h0, hp⟩ hk hlt,
    fun k hk => by rw [nth_swp (by omega) (by omega), if_neg (by omega), if_neg (by omega)]; exact h.far k hk⟩
def DownPost (u : World) (F : List Nat) (c : Nat) (now : Int) (mb : Nat) (A : Option Addr) (cap : Nat) (l : List Al) (n i0 : Nat) (e : Ending) (u' : World) : Prop :=
  ∃ b l', e = .returned (.bool b) ∧ Kp u u' F c now mb A cap l l' ∧ (∀ k, n ≤ k → nth l' k = nth l k) ∧ (b = true → HeapN l' n) ∧ (b = false → UpInv l' n i0)
theorem Dk.post {u wr w1 w2 : World} {n i i0 : Nat} {l' : List Al} (h : Dk u wr F c now mb A cap l n i i0 l') (hs : ∀ c, 0 < c → c < n → (c - 1) / 2 = i → Ord l' i c) (k1 : Ke [] wr w1) (k2 : Ke [] w1 w2) : DownPost u F c now mb A cap l n i0 (.returned (.bool (decide (i0 < i)))) w2 := by
  have hk := k1.trans k2
  obtain ⟨s1, s2⟩ := dn_stop h.inv hs
  have := h.inv.2.2
  refine ⟨_, l', rfl, ⟨h.kp.h.ke hk (by simp), h.kp.p, h.kp.k.trans hk.nil⟩, h.far, fun hb => s1 (by simpa using hb), fun hb => s2 ?_⟩
  simp at hb
  omega

set_option maxRecDepth 100000 in
set_option maxHeartbeats 8000000 in
theorem down_ok (u : World) (h : Hp u F c now mb A cap l) (i0 n : Nat) (hn : n ≤ l.length) (hi : i0 < n) (hd : DnInv l n i0 i0) :
    Calls Try.prog 29 #[hpv c, .int .i64 (i0 : Int), .int .i64 (n : Int)] u (DownPost u F c now mb A cap l n i0) := by
  have H := Lib.hid (show Dk u u F c now mb A cap l n i0 i0 l from ⟨⟨h, .refl _, Ke.refl _ _⟩, hd, fun _ _ => rfl⟩)
  have hn2 : n ≤ 1025 := Nat.le_trans hn h.few
  have HN := Lib.hid hn
  clear h hd hn
  go_enter Try.func29, Try.ntmps29
  go_wp2_with fail
  go_loopw [7] (fun v7 wr => ∃ i : Nat, i < n ∧ v7 = .int .i64 (i : Int) ∧ Hid (∃ l', Dk u wr F c now mb A cap l n i i0 l')) (fun v7 _ => n - (intOf v7).toNat)
  case atStart => exact ⟨i0, hi, rfl, Lib.hid ⟨l, H.out⟩⟩
  case round =>
    obtain ⟨i, hk, rfl, HR⟩ := hrel
    obtain ⟨l', HK⟩ := HR.out
    have hl' : n ≤ l'.length := by rw [HK.kp.p.length_eq]; exact HN.out
    have HL := Lib.hid hl'
    have HX := Lib.hid HK
    have HH := Lib.hid HK.kp.h
    obtain ⟨j1, hj1⟩ : ∃ j1, j1 = 2 * i + 1 := ⟨_, rfl⟩
    have hq1 : 2 * (i : Int) + 1 = (j1 : Int) := by omega
    have HJ1 := Lib.hid hj1
    by_cases hjn : j1 < n
    · have hjn2 : (j1 : Int) < (n : Int) := by omega
      obtain ⟨j2, hj2⟩ : ∃ j2, j2 = j1 + 1 := ⟨_, rfl⟩
      have hq2 : (j1 : Int) + 1 = (j2 : Int) := by omega
      have HJ2 := Lib.hid hj2
      have HLA := Lib.hid (show j1 < l'.length ∧ i < l'.length by omega)
      clear HK HR hl'
      by_cases hj2n : j2 < n
      · have hj2n2 : (j2 : Int) < (n : Int) := by omega
        by_cases hl2 : (nth l' j2).lt (nth l' j1)
        · have HL2 := Lib.hid (decide_eq_true hl2)
          have HKID := Lib.hid (show ∀ k, 0 < k → k < n → (k - 1) / 2 = i → Ord l' j2 k from fun k k0 kn hk => by
            by_cases e : k = j2
            · subst e; exact Al.lt_irrefl _
            · obtain rfl : k = j1 := by omega
              exact Al.nlt_of hl2)
          have hjm : j2 < n ∧ i < j2 := by omega
          obtain ⟨hjm1, hjm2⟩ := hjm
          clear hj1 hj2
          by_cases hlt : (nth l' j2).lt (nth l' i)
          · have HLT := Lib.hid (decide_eq_true hlt)
            have HPQ := Lib.hid hlt
            clear hlt
            go_wp2_with (first
              | (refine wp_less (by kernel_rfl) (.tmp 29) (.tmp 30) (.tmp 31) rfl rfl j2 j1 rfl rfl HH.out (by have := HLA.out; have := HJ1.out; have := HJ2.out; have := HL.out; omega) (by have := HLA.out; have := HJ1.out; have := HJ2.out; have := HL.out; omega) true HL2.out ?_; intro w1 hk1 hh1; have H1 := Lib.hid (And.intro hk1 hh1); clear hk1 hh1)
              | (refine wp_less (by kernel_rfl) (.tmp 35) (.tmp 36) (.tmp 37) rfl rfl j2 i rfl rfl H1.out.2 (by have := HLA.out; have := HJ1.out; have := HJ2.out; have := HL.out; omega) (by have := HLA.out; have := HJ1.out; have := HJ2.out; have := HL.out; omega) true HLT.out ?_; intro w2 hk1 hh1; have H2 := Lib.hid (And.intro hk1 hh1); clear hk1 hh1)
              | (refine wp_swap (by kernel_rfl) (.tmp 40) (.tmp 41) (.tmp 42) rfl rfl i j2 rfl rfl H2.out.2 (by have := HL.out; omega) (by have := HL.out; omega) (by omega) ?_; intro w3 hk2 hh2; have H3 := Lib.hid (And.intro hk2 hh2); clear hk2 hh2))
            go_roundw
            case rel => exact ⟨j2, hjm1, rfl, Lib.hid ⟨_, HX.out.step HN.out hjm1 (by omega) (by have := HJ1.out; have := HJ2.out; omega) HKID.out HPQ.out H1.out.1 H2.out.1 H3.out.1 H3.out.2⟩⟩
            case measure => simp [intOf]; omega
          · have HLT := Lib.hid (decide_eq_false hlt)
            have HPQ := Lib.hid hlt
            clear hlt
            go_wp2_with (first
              | (refine wp_less (by kernel_rfl) (.tmp 29) (.tmp 30) (.tmp 31) rfl rfl j2 j1 rfl rfl HH.out (by have := HLA.out; have := HJ1.out; have := HJ2.out; have := HL.out; omega) (by have := HLA.out; have := HJ1.out; have := HJ2.out; have := HL.out; omega) true HL2.out ?_; intro w1 hk1 hh1; have H1 := Lib.hid (And.intro hk1 hh1); clear hk1 hh1)
              | (refine wp_less (by kernel_rfl) (.tmp 35) (.tmp 36) (.tmp 37) rfl rfl j2 i rfl rfl H1.out.2 (by have := HLA.out; have := HJ1.out; have := HJ2.out; have := HL.out; omega) (by have := HLA.out; have := HJ1.out; have := HJ2.out; have := HL.out; omega) false HLT.out ?_; intro w2 hk1 hh1; have H2 := Lib.hid (And.intro hk1 hh1); clear hk1 hh1))
            go_returns
            exact HX.out.post (fun c c0 cn hc => Al.nlt_trans HPQ.out (HKID.out c c0 cn hc)) H1.out.1 H2.out.1
        · have HL2 := Lib.hid (decide_eq_false hl2)
          have HKID := Lib.hid (show ∀ k, 0 < k → k < n → (k - 1) / 2 = i → Ord l' j1 k from fun k k0 kn hk => by
            by_cases e : k = j1
            · subst e; exact Al.lt_irrefl _
            · obtain rfl : k = j2 := by omega
              exact hl2)
          have hjm : j1 < n ∧ i < j1 := by omega
          obtain ⟨hjm1, hjm2⟩ := hjm
          clear hj1 hj2
          by_cases hlt : (nth l' j1).lt (nth l' i)
          · have HLT := Lib.hid (decide_eq_true hlt)
            have HPQ := Lib.hid hlt
            clear hlt
            go_wp2_with (first
              | (refine wp_less (by kernel_rfl) (.tmp 29) (.tmp 30) (.tmp 31) rfl rfl j2 j1 rfl rfl HH.out (by have := HLA.out; have := HJ1.out; have := HJ2.out; have := HL.out; omega) (by have := HLA.out; have := HJ1.out; have := HJ2.out; have := HL.out; omega) false HL2.out ?_; intro w1 hk1 hh1; have H1 := Lib.hid (And.intro hk1 hh1); clear hk1 hh1)
              | (refine wp_less (by kernel_rfl) (.tmp 35) (.tmp 36) (.tmp 37) rfl rfl j1 i rfl rfl H1.out.2 (by have := HLA.out; have := HJ1.out; have := HJ2.out; have := HL.out; omega) (by have := HLA.out; have := HJ1.out; have := HJ2.out; have := HL.out; omega) true HLT.out ?_; intro w2 hk1 hh1; have H2 := Lib.hid (And.intro hk1 hh1); clear hk1 hh1)
              | (refine wp_swap (by kernel_rfl) (.tmp 40) (.tmp 41) (.tmp 42) rfl rfl i j1 rfl rfl H2.out.2 (by have := HL.out; omega) (by have := HL.out; omega) (by omega) ?_; intro w3 hk2 hh2; have H3 := Lib.hid (And.intro hk2 hh2); clear hk2 hh2))
            go_roundw
            case rel => exact ⟨j1, hjm1, rfl, Lib.hid ⟨_, HX.out.step HN.out hjm1 (by omega) (by have := HJ1.out; have := HJ2.out; omega) HKID.out HPQ.out H1.out.1 H2.out.1 H3.out.1 H3.out.2⟩⟩
            case measure => simp [intOf]; omega
          · have HLT := Lib.hid (decide_eq_false hlt)
            have HPQ := Lib.hid hlt
            clear hlt
            go_wp2_with (first
              | (refine wp_less (by kernel_rfl) (.tmp 29) (.tmp 30) (.tmp 31) rfl rfl j2 j1 rfl rfl HH.out (by have := HLA.out; have := HJ1.out; have := HJ2.out; have := HL.out; omega) (by have := HLA.out; have := HJ1.out; have := HJ2.out; have := HL.out; omega) false HL2.out ?_; intro w1 hk1 hh1; have H1 := Lib.hid (And.intro hk1 hh1); clear hk1 hh1)
              | (refine wp_less (by kernel_rfl) (.tmp 35) (.tmp 36) (.tmp 37) rfl rfl j1 i rfl rfl H1.out.2 (by have := HLA.out; have := HJ1.out; have := HJ2.out; have := HL.out; omega) (by have := HLA.out; have := HJ1.out; have := HJ2.out; have := HL.out; omega) false HLT.out ?_; intro w2 hk1 hh1; have H2 := Lib.hid (And.intro hk1 hh1); clear hk1 hh1))
            go_returns
            exact HX.out.post (fun c c0 cn hc => Al.nlt_trans HPQ.out (HKID.out c c0 cn hc)) H1.out.1 H2.out.1
      · have hj2n2 : (n : Int) ≤ (j2 : Int) := by omega
        have HKID := Lib.hid (show ∀ k, 0 < k → k < n → (k - 1) / 2 = i → Ord l' j1 k from fun k k0 kn hk => by
          obtain rfl : k = j1 := by omega
          exact Al.lt_irrefl _)
        have hjm : j1 < n ∧ i < j1 := by omega
        obtain ⟨hjm1, hjm2⟩ := hjm
        clear hj1 hj2
        by_cases hlt : (nth l' j1).lt (nth l' i)
        · have HLT := Lib.hid (decide_eq_true hlt)
          have HPQ := Lib.hid hlt
          clear hlt
          go_wp2_with (first
            | (refine wp_less (by kernel_rfl) (.tmp 35) (.tmp 36) (.tmp 37) rfl rfl j1 i rfl rfl HH.out (by have := HLA.out; have := HJ1.out; have := HJ2.out; have := HL.out; omega) (by have := HLA.out; have := HJ1.out; have := HJ2.out; have := HL.out; omega) true HLT.out ?_; intro w2 hk1 hh1; have H2 := Lib.hid (And.intro hk1 hh1); clear hk1 hh1)
            | (refine wp_swap (by kernel_rfl) (.tmp 40) (.tmp 41) (.tmp 42) rfl rfl i j1 rfl rfl H2.out.2 (by have := HL.out; omega) (by have := HL.out; omega) (by omega) ?_; intro w3 hk2 hh2; have H3 := Lib.hid (And.intro hk2 hh2); clear hk2 hh2))
          go_roundw
          case rel => exact ⟨j1, hjm1, rfl, Lib.hid ⟨_, HX.out.step HN.out hjm1 (by omega) (by have := HJ1.out; have := HJ2.out; omega) HKID.out HPQ.out (Ke.refl _ _) H2.out.1 H3.out.1 H3.out.2⟩⟩
          case measure => simp [intOf]; omega
        · have HLT := Lib.hid (decide_eq_false hlt)
          have HPQ := Lib.hid hlt
          clear hlt
          go_wp2_with (first
            | (refine wp_less (by kernel_rfl) (.tmp 35) (.tmp 36) (.tmp 37) rfl rfl j1 i rfl rfl HH.out (by have := HLA.out; have := HJ1.out; have := HJ2.out; have := HL.out; omega) (by have := HLA.out; have := HJ1.out; have := HJ2.out; have := HL.out; omega) false HLT.out ?_; intro w2 hk1 hh1; have H2 := Lib.hid (And.intro hk1 hh1); clear hk1 hh1))
          go_returns
          exact HX.out.post (fun c c0 cn hc => Al.nlt_trans HPQ.out (HKID.out c c0 cn hc)) (Ke.refl _ _) H2.out.1
    · have hjn2 : (n : Int) ≤ (j1 : Int) := by omega
      have HS := Lib.hid (show ∀ c, 0 < c → c < n → (c - 1) / 2 = i → Ord l' i c from fun c c0 cn hc => by omega)
      clear HK HR hl' hj1 hjn
      go_wp2_with fail
      go_returns
      exact HX.out.post HS.out (Ke.refl _ _) (Ke.refl _ _)
end Go.Proofs.Ytdfllobdefodfaa
