/- The document's own First: its contract. -/
import Derived.Test.YtndamiocmdnenaaFr3
namespace Go.Proofs.Ytndamiocmdnenaa
set_option linter.unusedVariables false
set_option maxRecDepth 100000
set_option linter.unusedSimpArgs false
open Go.RowKit

theorem beg_bad_ways (l : List UInt8) (h : begB l = false) : (∃ m r, l = m :: r ∧ m.toNat ≠ 170) ∨ ∃ m k r, l = m :: k :: r ∧ m.toNat = 170 ∧ (k.toNat = 0 ∨ 200 < k.toNat) := by
  match l, h with
  | [], h => cases h
  | [m], h =>
    left
    refine ⟨m, [], rfl, fun e => ?_⟩
    have : (m.toNat == 170) = false := h
    rw [e] at this; cases this
  | m :: k :: r, h =>
    have h1 : (m.toNat == 170 && (decide (0 < k.toNat) && decide (k.toNat ≤ 200))) = false := h
    by_cases hm : m.toNat = 170
    · right
      refine ⟨m, k, r, rfl, hm, ?_⟩
      rw [hm] at h1
      rcases Nat.eq_zero_or_pos k.toNat with h2 | h2
      · exact .inl h2
      · right
        rcases Nat.lt_or_ge 200 k.toNat with h3 | h3
        · exact h3
        · simp [h2, h3] at h1
    · exact .inl ⟨m, k :: r, rfl, hm⟩
theorem beg_good_short (l : List UInt8) (h : begB l = true) (hs : l.length < 2) : l = [] ∨ ∃ m, l = [m] ∧ m.toNat = 170 := by
  match l, h, hs with
  | [], _, _ => exact .inl rfl
  | [m], h, _ =>
    have : (m.toNat == 170) = true := h
    exact .inr ⟨m, rfl, by simpa using this⟩
  | _ :: _ :: _, _, hs => simp only [List.length_cons] at hs; omega

set_option maxHeartbeats 4000000 in
theorem rfirst_ok (A : Option Addr) (n c : Nat) (l : List UInt8) (w : World) (hl : l.length = n) (hc : n ≤ c) (hmax : c ≤ 9223372036854775807) (hR : Rb w w.heap.size A l) :
    Calls Try.prog 64 #[.slice A n c] w fun e w' => ∃ A2 c2, e = .returned (.tuple #[.slice A2 (partF l).length c2, .int .i64 (lenF l : Nat), .int .i64 (errF l : Nat)]) ∧ OB w' w.heap.size 5 A2 c2 (partF l) ∧ (A2 = none → c2 = 0) ∧ Below w.heap.size w w' := by
  rcases first_ways l with ⟨hb, h0⟩ | ⟨hb, h0, hs⟩ | ⟨m, k, r, he, hb, hm, hk0, hk2, hway⟩
  · rw [h0, part_nil l h0, err_bad l hb]
    rcases beg_bad_ways l hb with ⟨m, r, he, hm⟩ | ⟨m, k, r, he, hm, hk⟩
    · obtain ⟨b, o, rfl, _, c0⟩ := hR.byte 0 (by rw [he]; simp)
      have e0 : l[0]'(by rw [he]; simp) = m := by simp [he]
      rw [e0, Nat.add_zero] at c0
      have g0 : 0 < n := by rw [← hl, he]; simp
      have g1 : (0 : Int) < (n : Int) := by omega
      obtain ⟨q, hq⟩ : ∃ q : Int, q = (m.toNat : Int) := ⟨_, rfl⟩
      rw [← hq] at c0
      have e2 : (q == 170) = false := by rw [beq_eq_false_iff_ne]; omega
      have e3 : ¬ (q = 170) := by omega
      clear hb h0 hl hR he hm hq e0
      go_enter Try.func64, Try.ntmps64
      go_wp2
      all_goals (try (have hh := ‹some undef = some (Value.bool _)›; injection hh with hh; cases hh; done))
      go_ret3
      exact ⟨none, 0, rfl, OB.nil _ _ _, fun _ => rfl, Below.refl _ _⟩
    · obtain ⟨b, o, rfl, _, c0⟩ := hR.byte 0 (by rw [he]; simp)
      obtain ⟨b', o', e', _, c1⟩ := hR.byte 1 (by rw [he]; simp)
      injection e' with e'
      injection e' with e1 e2
      subst e1; subst e2
      have e0 : l[0]'(by rw [he]; simp) = m := by simp [he]
      have e1 : l[1]'(by rw [he]; simp) = k := by simp [he]
      rw [e0, Nat.add_zero, hm] at c0
      rw [e1] at c1
      have g0 : 1 < n := by rw [← hl, he]; simp only [List.length_cons]; omega
      have g1 : (0 : Int) < (n : Int) := by omega
      have g2 : (1 : Int) < (n : Int) := by omega
      have g3 : 0 < n := by omega
      obtain ⟨q, hq⟩ : ∃ q : Int, q = (k.toNat : Int) := ⟨_, rfl⟩
      rw [← hq] at c1
      rcases hk with hk | hk
      · have e5 : q = 0 := by omega
        subst e5
        clear hb h0 hl hR he hm hq e0 e1
        go_enter Try.func64, Try.ntmps64
        go_wp2
        go_ret3
        exact ⟨none, 0, rfl, OB.nil _ _ _, fun _ => rfl, Below.refl _ _⟩
      · have e5 : (q == 0) = false := by rw [beq_eq_false_iff_ne]; omega
        have e6 : (200 : Int) < q := by omega
        clear hb h0 hl hR he hm hq e0 e1
        go_enter Try.func64, Try.ntmps64
        go_wp2
        go_ret3
        exact ⟨none, 0, rfl, OB.nil _ _ _, fun _ => rfl, Below.refl _ _⟩
  · rw [h0, part_nil l h0, err_ok l hb]
    rcases beg_good_short l hb hs with he | ⟨m, he, hm⟩
    · rw [he] at hl
      simp only [List.length_nil] at hl
      subst hl
      clear hb h0 hR hs
      go_enter Try.func64, Try.ntmps64
      go_wp2
      all_goals (try (have hh := ‹some undef = some (Value.bool _)›; injection hh with hh; cases hh; done))
      go_ret3
      exact ⟨none, 0, rfl, OB.nil _ _ _, fun _ => rfl, Below.refl _ _⟩
    · obtain ⟨b, o, rfl, _, c0⟩ := hR.byte 0 (by rw [he]; simp)
      have e0 : l[0]'(by rw [he]; simp) = m := by simp [he]
      rw [e0, Nat.add_zero, hm] at c0
      rw [he] at hl
      simp only [List.length_cons, List.length_nil] at hl
      subst hl
      clear hb h0 hR hs hm e0
      go_enter Try.func64, Try.ntmps64
      go_wp2
      all_goals (try (have hh := ‹some undef = some (Value.bool _)›; injection hh with hh; cases hh; done))
      go_ret3
      exact ⟨none, 0, rfl, OB.nil _ _ _, fun _ => rfl, Below.refl _ _⟩
  · rw [err_ok l hb]
    have hl0 : 0 < l.length := by rw [he]; simp
    have hl1 : 1 < l.length := by rw [he]; simp
    have hlr : l.length = r.length + 2 := by rw [he]; rfl
    obtain ⟨b, o, rfl, hbl, c0⟩ := hR.byte 0 hl0
    obtain ⟨b', o', e', _, c1⟩ := hR.byte 1 hl1
    injection e' with e'
    injection e' with e1 e2
    subst e1; subst e2
    have e0 : l[0] = m := by simp [he]
    have e1 : l[1] = k := by simp [he]
    rw [e0, Nat.add_zero, hm] at c0
    rw [e1] at c1
    have g0 : 0 < n := by omega
    have g1 : (0 : Int) < (n : Int) := by omega
    have g2 : (1 : Int) < (n : Int) := by omega
    have g3 : ¬ ((n : Int) < 2) := by omega
    have HRR := Lib.hid hR
    have HE := Lib.hid he
    obtain ⟨q, hq⟩ : ∃ q, q = k.toNat := ⟨_, rfl⟩
    rw [← hq] at c1 hk0 hk2 hway
    have e5 : ((q : Int) == 0) = false := by rw [beq_eq_false_iff_ne]; omega
    have e6 : ¬ ((200 : Int) < (q : Int)) := by omega
    rcases hway with ⟨h0, hlt⟩ | ⟨h1, hle, hp⟩
    · rw [h0, part_nil l h0]
      have g4 : (n : Int) < 2 + (q : Int) := by omega
      clear hb h0 hl hR hlt he hq hm hl1 hl0 hlr e0 e1
      go_enter Try.func64, Try.ntmps64
      go_wp2
      all_goals (try (have hh := ‹some undef = some (Value.bool _)›; injection hh with hh; cases hh; done))
      go_ret3
      exact ⟨none, 0, rfl, OB.nil _ _ _, fun _ => rfl, Below.refl _ _⟩
    · rw [h1, hp]
      have htl : (r.take q).length = q := by rw [List.length_take]; omega
      have HTL := Lib.hid htl
      have HRT := Lib.hid (show Rb w w.heap.size (some ⟨b, o + 2, none⟩) (r.take q) from .inr ⟨b, o + 2, rfl, hbl, by
        intro i hi
        have hi2 : 2 + i < l.length := by omega
        obtain ⟨b', o', e', _, ci⟩ := hR.byte (2 + i) hi2
        injection e' with e'
        injection e' with e1 e2
        subst e1; subst e2
        rw [← Nat.add_assoc] at ci
        rw [ci]
        have e3 : l[2 + i] = (r.take q)[i] := by
          have : l[2 + i]? = r[i]? := by rw [he]; rw [Nat.add_comm]; rfl
          rw [List.getElem?_eq_getElem hi2, List.getElem?_eq_getElem (by omega)] at this
          rw [List.getElem_take]
          exact Option.some.inj this
        rw [e3]⟩)
      have g4 : (2 : Int) + (q : Int) ≤ (n : Int) := by omega
      have g5 : (2 : Int) ≤ 2 + (q : Int) := by omega
      have g6 : (2 : Int) + (q : Int) ≤ (c : Int) := by omega
      have g7 : ¬ (c = 2) := by omega
      have e8 : 2 + q - 2 = q := by omega
      clear hb hl hR hle he hq hm hl1 hl0 hlr h1 hp htl e0 e1
      go_enter Try.func64, Try.ntmps64
      go_wp2_with (at_builtin; refine wp_app rfl (.tmp 50) (.tmp 53) 28 5 rfl Try.underlying28 frbytesInfo w.heap.size [] (some ⟨w.heap.size, 0, none⟩) 0 0 rfl rfl (OB.new _ [] (Nat.le_refl _) (by simp)) (r.take q) ⟨b, o + 2, none⟩ q (c - 2) w.heap.size (by show Value.slice _ (2 + q - 2) _ = _; rw [e8]) HTL.out (HRT.out.below ((Below.refl _ w).alloc (Nat.le_refl _) _) (Nat.le_refl _)) (by rw [HTL.out]; simp only [List.length_nil]; omega) (by rw [World.size_alloc]; omega) ?_; intro A4 c4 w4 ho4 hg4 hb4)
      go_ret3
      rw [List.nil_append] at ho4
      have e9 : min q r.length = (r.take q).length := by rw [List.length_take]
      rw [e9]
      have e7 : (2 : Int) + (q : Int) = ((q + 2 : Nat) : Int) := by omega
      rw [e7]
      refine ⟨A4, c4, rfl, ho4, fun h => ?_, ((Below.refl _ w).alloc (Nat.le_refl _) _).trans hb4⟩
      obtain ⟨g, e, _⟩ := ho4.form (by intro h0; rw [h0] at HTL; have := HTL.out; simp at this; omega)
      rw [h] at e; cases e
end Go.Proofs.Ytndamiocmdnenaa
