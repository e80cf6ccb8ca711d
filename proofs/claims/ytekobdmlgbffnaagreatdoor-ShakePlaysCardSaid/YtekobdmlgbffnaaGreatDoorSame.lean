/- mac.Same: rows that are alike. -/
import Derived.Test.YtekobdmlgbffnaaGreatDoorG9
import Derived.Test.YtekobdmlgbffnaaGreatDoorG1
import Derived.Deep.QuietTactic
import Derived.BigQuiet
namespace Go.Proofs.YtekobdmlgbffnaaGreatDoor
set_option linter.unusedVariables false
set_option maxRecDepth 100000
set_option linter.unusedSimpArgs false
open Go.RowKit

theorem Rb.at_ {w : World} {B : Nat} {A : Option Addr} {l : List UInt8} (h : Rb w B A l) (h0 : 0 < l.length) : ∃ b o, A = some ⟨b, o, none⟩ ∧ b < B ∧ ∀ i, i < l.length → w.cell? ⟨b, o + i, none⟩ = some (.int .u8 ((l.getD i 0).toNat : Int)) := by
  rcases h with h | ⟨b, o, e, hb, hc⟩
  · subst h; simp at h0
  · refine ⟨b, o, e, hb, fun i hi => ?_⟩
    rw [hc i hi, List.getD, List.getElem?_eq_getElem hi]; rfl
theorem ext_getD (a b : List UInt8) (n : Nat) (h1 : a.length = n) (h2 : b.length = n) : a = b ↔ ∀ j, j < n → a.getD j 0 = b.getD j 0 := by
  constructor
  · intro h j _; rw [h]
  · intro h
    apply List.ext_getElem (by omega)
    intro j hj1 hj2
    have := h j (by omega)
    rw [List.getD, List.getD, List.getElem?_eq_getElem hj1, List.getElem?_eq_getElem hj2] at this
    exact this
/-- Up to here no byte is other. -/
def Alike (l l' : List UInt8) (i : Nat) (x : UInt8) : Prop := x = 0 ↔ ∀ j, j < i → l.getD j 0 = l'.getD j 0
theorem Alike.zero (l l' : List UInt8) : Alike l l' 0 0 := ⟨fun _ j hj => by omega, fun _ => rfl⟩
theorem Alike.next {l l' : List UInt8} {i : Nat} {x : UInt8} (h : Alike l l' i x) : Alike l l' (i + 1) (x ||| (l.getD i 0 ^^^ l'.getD i 0)) := by
  unfold Alike at h ⊢
  rw [or_zero, xor_zero, h]
  constructor
  · rintro ⟨h1, h2⟩ j hj
    by_cases hji : j = i
    · rw [hji]; exact h2
    · exact h1 j (by omega)
  · intro h1
    exact ⟨fun j hj => h1 j (by omega), h1 i (by omega)⟩

set_option maxHeartbeats 1000000 in
theorem same_q (A : Option Addr) (n c : Nat) (l : List UInt8) (A' : Option Addr) (n' c' : Nat) (l' : List UInt8) (v : Bool) (w : World) (hl : l.length = n) (hl' : l'.length = n') (hn : n ≤ 1099511627776) (hn' : n' ≤ 1099511627776)
    (hR : Rb w w.heap.size A l) (hR' : Rb w w.heap.size A' l') (hv : decide (l = l') = v) :
    Calls Tryz.prog 144 #[.slice A n c, .slice A' n' c'] w fun e w' => e = .returned (.bool v) ∧ ∃ m, w' = w.drewN m := by
  by_cases hne : n = n'
  · subst hne
    have HL := Lib.hid hl
    have HL' := Lib.hid hl'
    have HR := Lib.hid hR
    have HR' := Lib.hid hR'
    have HV := Lib.hid hv
    clear hl hl' hR hR' hv
    have hX : ∀ x y : UInt8, bits .xor .u8 (x.toNat : Int) (y.toNat : Int) = ((x ^^^ y).toNat : Int) := b_xor
    have hO : ∀ x y : UInt8, bits .or .u8 (x.toNat : Int) (y.toNat : Int) = ((x ||| y).toNat : Int) := b_or
    go_enter Tryz.func144, Tryz.ntmps144
    go_wp2_with fail
    go_loopw [14, 5] (fun v14 v5 wr => ∃ (i : Nat) (x : UInt8), i ≤ n ∧ v14 = .int .i64 i ∧ v5 = .int .u8 (x.toNat : Int) ∧ Hid (Alike l l' i x) ∧ ∃ k, wr = w.drewN k) (fun v14 _ _ => n - (intOf v14).toNat)
    case atStart => exact ⟨0, 0, by omega, rfl, rfl, Lib.hid (Alike.zero _ _), 0, rfl⟩
    case round =>
      obtain ⟨i, x, hi, rfl, rfl, HA, k, rfl⟩ := hrel
      by_cases hi1 : i < n
      · have hi2 : (i : Int) < (n : Int) := by omega
        obtain ⟨b, o, rfl, hb, hc0⟩ := HR.out.at_ (by rw [HL.out]; omega)
        obtain ⟨b', o', rfl, hb', hc0'⟩ := HR'.out.at_ (by rw [HL'.out]; omega)
        have hc : w.cell? ⟨b, o + i, none⟩ = some (.int .u8 ((l.getD i 0).toNat : Int)) := hc0 i (by rw [HL.out]; exact hi1)
        have hc' : w.cell? ⟨b', o' + i, none⟩ = some (.int .u8 ((l'.getD i 0).toNat : Int)) := hc0' i (by rw [HL'.out]; exact hi1)
        have HN := Lib.hid (HA.out.next)
        clear hc0 hc0' hb hb'
        obtain ⟨p, hp⟩ : ∃ p, p = l.getD i 0 := ⟨_, rfl⟩
        obtain ⟨q, hq⟩ : ∃ q, q = l'.getD i 0 := ⟨_, rfl⟩
        rw [← hp] at hc HN
        rw [← hq] at hc' HN
        clear hp hq
        go_wp2_with fail
        go_quiet (fail)
        go_wp2_with fail
        go_roundw
        case rel => exact ⟨i + 1, _, by omega, by go_num, (by rw [← b_or, UInt8.toNat_xor]), HN, _, rfl⟩
        case measure => simp [intOf]; omega
      · have hi2 : (n : Int) ≤ (i : Int) := by omega
        have hE : decide (x = 0) = v := by
          rw [← HV.out]
          have h1 := HA.out
          unfold Alike at h1
          have h2 := ext_getD l l' n HL.out HL'.out
          rw [decide_eq_decide, h1, h2]
          rw [show i = n by omega]
        by_cases hx : x = 0
        · subst hx
          obtain rfl : true = v := by rw [← hE]; rfl
          go_wp2_with fail
          go_ret
          exact ⟨rfl, _, rfl⟩
        · obtain rfl : false = v := by rw [← hE, decide_eq_false hx]
          have hx2 : ¬ (x.toNat = 0) := fun h => hx (UInt8.toNat_inj.1 h)
          have hx3 : ((x.toNat : Int) == 0) = false := by rw [beq_eq_false_iff_ne]; omega
          have hx4 : 0 < x.toNat := by omega
          clear hE hx hx2
          go_wp2_with fail
          go_ret
          exact ⟨rfl, _, rfl⟩
  · obtain rfl : false = v := by
      rw [← hv, decide_eq_false]
      intro h; rw [h] at hl; omega
    have hne2 : ((n : Int) == (n' : Int)) = false := by rw [beq_eq_false_iff_ne]; omega
    have hne3 : ((n : Int) != (n' : Int)) = true := by rw [bne_iff_ne]; omega
    clear hl hl' hR hR' hv hne
    go_enter Tryz.func144, Tryz.ntmps144
    go_wp2_with fail
    go_ret
    exact ⟨rfl, 0, rfl⟩
theorem same_ok (A : Option Addr) (n c : Nat) (l : List UInt8) (A' : Option Addr) (n' c' : Nat) (l' : List UInt8) (v : Bool) (w : World) (hl : l.length = n) (hl' : l'.length = n') (hn : n ≤ 1099511627776) (hn' : n' ≤ 1099511627776)
    (hR : Rb w w.heap.size A l) (hR' : Rb w w.heap.size A' l') (hv : decide (l = l') = v) :
    Calls Tryz.prog 144 #[.slice A n c, .slice A' n' c'] w fun e w' => e = .returned (.bool v) ∧ Below w.heap.size w w' :=
  (same_q A n c l A' n' c' l' v w hl hl' hn hn' hR hR' hv).mono fun e w' ⟨h, m, hm⟩ => by
    subst hm
    exact ⟨h, Below.drewN' (Below.refl _ _) _⟩
end Go.Proofs.YtekobdmlgbffnaaGreatDoor
