/- frame.First: its contract. -/
import Derived.Test.YtndamiocmdnenaaFr1
namespace Go.Proofs.Ytndamiocmdnenaa
set_option linter.unusedVariables false
set_option maxRecDepth 100000
set_option linter.unusedSimpArgs false
open Go.RowKit

/-- The error that bytes have. -/
def errF (l : List UInt8) : Nat := if begB l = true then 0 else 61
theorem err_ok (l : List UInt8) (h : begB l = true) : errF l = 0 := by unfold errF; rw [if_pos h]
theorem err_bad (l : List UInt8) (h : begB l = false) : errF l = 61 := by unfold errF; rw [h]; rfl
theorem part_nil (l : List UInt8) (h : lenF l = 0) : partF l = [] := by unfold partF; rw [h]; rfl
theorem part_len_le (l : List UInt8) : (partF l).length ≤ 200 := by
  rcases Nat.eq_zero_or_pos (lenF l) with h | h
  · rw [part_nil l h]; simp
  · exact ((fine_iff _).1 (len_pos l (by omega)).1).2
/-- The three ways on which bytes are looked at. -/
theorem first_ways (l : List UInt8) : (begB l = false ∧ lenF l = 0) ∨ (begB l = true ∧ lenF l = 0 ∧ l.length < 2) ∨
    (∃ m k r, l = m :: k :: r ∧ begB l = true ∧ m.toNat = 170 ∧ 0 < k.toNat ∧ k.toNat ≤ 200 ∧ (lenF l = 0 ∧ r.length < k.toNat ∨ lenF l = k.toNat + 2 ∧ k.toNat ≤ r.length ∧ partF l = r.take k.toNat)) := by
  cases hb : begB l with
  | false => exact .inl ⟨rfl, beg_none l hb⟩
  | true =>
    right
    match l, hb with
    | [], _ => left; exact ⟨rfl, rfl, by simp⟩
    | [m], _ => left; exact ⟨rfl, rfl, by simp⟩
    | m :: k :: r, hb =>
      right
      refine ⟨m, k, r, rfl, rfl, ?_⟩
      have h0 : (m.toNat == 170 && (decide (0 < k.toNat) && decide (k.toNat ≤ 200))) = true := hb
      simp only [Bool.and_eq_true, beq_iff_eq, decide_eq_true_eq] at h0
      obtain ⟨h1, h2, h3⟩ := h0
      refine ⟨h1, h2, h3, ?_⟩
      rw [len_two]
      by_cases h4 : k.toNat ≤ r.length
      · right
        rw [if_pos ⟨h1, h2, h3, h4⟩]
        refine ⟨rfl, h4, ?_⟩
        unfold partF
        rw [len_two, if_pos ⟨h1, h2, h3, h4⟩]
        simp
      · left
        rw [if_neg (by intro h; exact h4 h.2.2.2)]
        exact ⟨rfl, by omega⟩

/-- bytes.Clone of bytes that are not at nil. -/
theorem clone_ok (b o q c : Nat) (l : List UInt8) (w : World) (hl : l.length = q) (hq : q ≤ 140737488355328) (h : ∀ i, (h : i < l.length) → w.cell? ⟨b, o + i, none⟩ = some (.int .u8 ((l[i]).toNat : Int))) :
    Calls Try.prog 80 #[.slice (some ⟨b, o, none⟩) q c] w fun e w' => ∃ g c2, e = .returned (.slice (some ⟨g, 0, none⟩) q c2) ∧ OB w' w.heap.size 5 (some ⟨g, 0, none⟩) c2 l ∧ Below w.heap.size w w' := by
  refine (Try.bytes_Clone_at ⟨b, o, none⟩ q c (l.map fun x => (x.toNat : Int)) w (by rw [List.length_map, hl]) hq ?_).mono ?_
  · intro i hi
    rw [add_plain, h i (by omega)]
    simp [List.getD, (by omega : i < l.length)]
  · rintro e w' ⟨v', rfl, hown, hne, hb⟩
    have e1 : (l.map fun x => (x.toNat : Int)).map (Value.int .u8) = l.map Go.Proofs.Ytndamiocmdnenaa.u8 := by rw [List.map_map]; rfl
    rw [e1] at hown
    rcases hown.2 with ⟨hv, _⟩ | ⟨g, cap, cur, rfl, _⟩
    · exact absurd hv hne
    · exact ⟨g, cap, rfl, by unfold OB; rw [hl]; exact hown, hb⟩

set_option maxHeartbeats 2000000 in
theorem frfirst_ok (A : Option Addr) (n c : Nat) (l : List UInt8) (w : World) (hl : l.length = n) (hc : n ≤ c) (hmax : c ≤ 9223372036854775807) (hR : Rb w w.heap.size A l) :
    Calls Try.prog 74 #[.slice A n c] w fun e w' => ∃ A2 c2, e = .returned (.tuple #[.slice A2 (partF l).length c2, .int .i64 (lenF l : Nat), .int .i64 (errF l : Nat)]) ∧ OB w' w.heap.size 5 A2 c2 (partF l) ∧ (A2 = none → c2 = 0) ∧ Below w.heap.size w w' := by
  have HB := Lib.hid (begins_ok A n c l w hl hR)
  rcases first_ways l with ⟨hb, h0⟩ | ⟨hb, h0, hs⟩ | ⟨m, k, r, he, hb, hm, hk0, hk2, hway⟩
  · rw [hb] at HB
    rw [h0, part_nil l h0, err_bad l hb]
    clear hb h0 hl hR
    go_enter Try.func74, Try.ntmps74
    go_wp2_with (go_at_call 79; refine HB.out.mono ?_; rintro e w' ⟨rfl, rfl⟩)
    go_ret3
    exact ⟨none, 0, rfl, OB.nil _ _ _, fun _ => rfl, Below.refl _ _⟩
  · rw [hb] at HB
    rw [h0, part_nil l h0, err_ok l hb]
    have g2 : (n : Int) < 2 := by omega
    clear hb h0 hl hR hs
    go_enter Try.func74, Try.ntmps74
    go_wp2_with (go_at_call 79; refine HB.out.mono ?_; rintro e w' ⟨rfl, rfl⟩)
    go_ret3
    exact ⟨none, 0, rfl, OB.nil _ _ _, fun _ => rfl, Below.refl _ _⟩
  · rw [hb] at HB
    have hl1 : 1 < l.length := by rw [he]; simp
    have hlr : l.length = r.length + 2 := by rw [he]; rfl
    obtain ⟨b, o, rfl, hbl, c1⟩ := hR.byte 1 hl1
    have ek : l[1] = k := by simp [he]
    rw [ek] at c1
    have HRR := Lib.hid hR
    have HE := Lib.hid he
    obtain ⟨q, hq⟩ : ∃ q, q = k.toNat := ⟨_, rfl⟩
    rw [← hq] at c1 hk0 hk2 hway
    have g2 : ¬ ((n : Int) < 2) := by omega
    rw [err_ok l hb]
    rcases hway with ⟨h0, hlt⟩ | ⟨h1, hle, hp⟩
    · rw [h0, part_nil l h0]
      have g3 : (n : Int) < 2 + (q : Int) := by omega
      clear hb h0 hl hR hlt he ek hq hm hl1 hlr
      go_enter Try.func74, Try.ntmps74
      go_wp2_with (go_at_call 79; refine HB.out.mono ?_; rintro e w' ⟨rfl, rfl⟩)
      go_ret3
      exact ⟨none, 0, rfl, OB.nil _ _ _, fun _ => rfl, Below.refl _ _⟩
    · rw [h1, hp]
      have HP := Lib.hid hp
      have htl : (r.take q).length = q := by rw [List.length_take]; omega
      have HTL := Lib.hid htl
      have HCL := Lib.hid (fun (c' : Nat) => clone_ok b (o + 2) q c' (r.take q) w htl (by omega) (by
        intro i hi
        have hi2 : 2 + i < l.length := by omega
        obtain ⟨b', o', e', _, ci⟩ := hR.byte (2 + i) hi2
        injection e' with e'
        injection e' with e1 e2
        subst e1; subst e2
        rw [← Nat.add_assoc] at ci
        rw [ci]
        have e3 : l[2 + i] = (r.take q)[i] := by
          have : l[2 + i]? = r[i]? := by rw [he]; rw [Nat.add_comm]; rfl
          rw [List.getElem?_eq_getElem hi2, List.getElem?_eq_getElem (by omega)] at this
          rw [List.getElem_take]
          exact Option.some.inj this
        rw [e3]))
      have g3 : (2 : Int) + (q : Int) ≤ (n : Int) := by omega
      have g4 : (2 : Int) ≤ 2 + (q : Int) := by omega
      have g5 : (2 : Int) + (q : Int) ≤ (c : Int) := by omega
      have g6 : ¬ (c = 2) := by omega
      clear hb hl hR hle he ek hq hm hl1 hlr h1 hp htl
      go_enter Try.func74, Try.ntmps74
      go_wp2_with (go_at_call 79; refine HB.out.mono ?_; rintro e w' ⟨rfl, rfl⟩)
      have e5 : 2 + q - 2 = q := by omega
      rw [e5]
      refine (HCL.out _).mono ?_
      rintro e w' ⟨g, c2, rfl, ho, hb⟩
      have HO := Lib.hid ho
      have HBB := Lib.hid hb
      clear ho hb
      go_wp2_with fail
      go_ret3
      refine ⟨some ⟨g, 0, none⟩, c2, ?_, HO.out, fun e => (by cases e), HBB.out⟩
      rw [HTL.out]
      have e6 : (2 : Int) + (q : Int) = ((q + 2 : Nat) : Int) := by omega
      rw [e6]
      rfl
end Go.Proofs.Ytndamiocmdnenaa
