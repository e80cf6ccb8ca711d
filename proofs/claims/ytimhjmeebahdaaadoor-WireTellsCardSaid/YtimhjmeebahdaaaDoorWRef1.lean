/- The document's own: what a kind has, and whether a letter is one of those: their contracts. -/
import Derived.Test.YtimhjmeebahdaaaDoorWireM
import Derived.Test.YtimhjmeebahdaaaDoorSidx
namespace Go.Proofs.YtimhjmeebahdaaaDoor
set_option linter.unusedVariables false
set_option linter.unusedSimpArgs false
open Go.RowKit

/-- The letters of what a kind has; a dot, if it is none. -/
def ltL : List (List UInt8) := [[46], [65, 66], [65], [65], [], [78], [65, 78], [65, 78, 77], [65, 78, 77], [65, 78], [65, 78], [65, 66], [66], [], [65]]
def ltB (k : Int) : ByteArray := if knownB k = true then bs (ltL.getD k.toNat []) else bs [46]
theorem lt_has : ∀ k : Nat, k < 15 → 1 ≤ k → (65 ∈ ltL.getD k [] ↔ hasK k 0 = true) ∧ (66 ∈ ltL.getD k [] ↔ hasK k 1 = true) ∧ (78 ∈ ltL.getD k [] ↔ hasK k 2 = true) ∧ (77 ∈ ltL.getD k [] ↔ hasK k 3 = true) := by decide +kernel

abbrev ltC : Array Value := #[.string ⟨#[46]⟩, .string ⟨#[65, 66]⟩, .string ⟨#[65]⟩, .string ⟨#[65]⟩, .string ⟨#[]⟩, .string ⟨#[78]⟩, .string ⟨#[65, 78]⟩, .string ⟨#[65, 78, 77]⟩, .string ⟨#[65, 78, 77]⟩, .string ⟨#[65, 78]⟩, .string ⟨#[65, 78]⟩, .string ⟨#[65, 66]⟩, .string ⟨#[66]⟩, .string ⟨#[]⟩, .string ⟨#[65]⟩]
theorem ltC_at (q : Nat) (h : q < 15) : ltC[q]? = some (.string (bs (ltL.getD q []))) := by
  match q, h with
  | 0, _ => rfl
  | 1, _ => rfl
  | 2, _ => rfl
  | 3, _ => rfl
  | 4, _ => rfl
  | 5, _ => rfl
  | 6, _ => rfl
  | 7, _ => rfl
  | 8, _ => rfl
  | 9, _ => rfl
  | 10, _ => rfl
  | 11, _ => rfl
  | 12, _ => rfl
  | 13, _ => rfl
  | 14, _ => rfl

set_option maxRecDepth 100000 in
set_option maxHeartbeats 1000000 in
theorem rhas_ok (k : Int) (w : World) : Calls Tryd.prog 20 #[.int .i64 k] w fun e w' => e = .returned (.string (ltB k)) ∧ Below w.heap.size w w' := by
  have hB : Below w.heap.size w (w.alloc (.cells ltC 9)) := by go_grown
  by_cases hk : knownB k = true
  · have e : ltB k = bs (ltL.getD k.toNat []) := by unfold ltB; rw [if_pos hk]
    unfold knownB at hk
    simp only [Bool.and_eq_true, decide_eq_true_eq] at hk
    obtain ⟨q, rfl⟩ : ∃ q : Nat, k = (q : Int) := ⟨k.toNat, by omega⟩
    have hq : q < 15 := by omega
    have hcell : (w.alloc (.cells ltC 9)).cell? ⟨w.heap.size, q, none⟩ = some (.string (bs (ltL.getD q []))) := by
      rw [(Bk.new w 9 ltC).cell]; exact ltC_at q hq
    rw [e, Int.toNat_natCast]
    generalize bs (ltL.getD q []) = V at hcell ⊢
    have h1 : (q : Int) < 15 := by omega
    have h2 : ¬ (q : Int) < 1 := by omega
    have h3 : ¬ (14 : Int) < (q : Int) := by omega
    have h4 : 1 ≤ q := by omega
    have h5 : q ≤ 14 := by omega
    clear e hk
    go_enter Tryd.func20, Tryd.ntmps20
    go_wp2
    go_ret
    exact ⟨rfl, hB⟩
  · have e : ltB k = ⟨#[46]⟩ := by unfold ltB; rw [if_neg hk]; rfl
    rw [e]
    unfold knownB at hk
    simp only [Bool.and_eq_true, decide_eq_true_eq] at hk
    by_cases h1 : k < 1
    · clear hk e
      go_enter Tryd.func20, Tryd.ntmps20
      go_wp2
      go_ret
      exact ⟨rfl, hB⟩
    · have h3 : (14 : Int) < k := by omega
      clear hk e
      go_enter Tryd.func20, Tryd.ntmps20
      go_wp2
      go_ret
      exact ⟨rfl, hB⟩

theorem mem_take_next (l : List UInt8) (i : Nat) (c : UInt8) (h : c ∉ l.take i) (hi : l.getD i 0 ≠ c) (hl : i < l.length) : c ∉ l.take (i + 1) := by
  rw [List.take_add_one, List.getElem?_eq_getElem hl]
  simp only [Option.toList_some, List.mem_append, List.mem_singleton, not_or]
  refine ⟨h, fun e => hi ?_⟩
  rw [List.getD, List.getElem?_eq_getElem hl, Option.getD_some, e]

set_option maxHeartbeats 1000000 in
theorem rof_ok (s : ByteArray) (c : UInt8) (w : World) (hs : s.size ≤ 140737488355328) (v : Nat) (hv : c.toNat = v) : Calls Tryd.prog 21 #[.string s, .int .u8 (v : Int)] w fun e w' => e = .returned (.bool (decide (c ∈ s.data.toList))) ∧ w = w' := by
  obtain ⟨R, hR⟩ : ∃ R, decide (c ∈ s.data.toList) = R := ⟨_, rfl⟩
  rw [hR]
  have HR := Lib.hid hR
  clear hR
  have HV := Lib.hid hv
  clear hv
  go_enter Tryd.func21, Tryd.ntmps21
  go_wp2_with fail
  go_loop [5] (fun v5 => ∃ i : Nat, i ≤ s.size ∧ v5 = .int .i64 i ∧ Hid (c ∉ s.data.toList.take i)) (fun v5 => s.size - (intOf v5).toNat)
  case atStart => exact ⟨0, by omega, rfl, Lib.hid (by simp)⟩
  case round =>
    obtain ⟨i, hi, rfl, HE⟩ := hrel
    have hls : s.data.toList.length = s.size := rfl
    by_cases hlt : i < s.size
    · obtain ⟨u, hu⟩ : ∃ u, (s.data.toList.getD i 0).toNat = u := ⟨_, rfl⟩
      have hxi := sidx s i u hlt hu w
      by_cases heq : u = v
      · have HT := Lib.hid (show true = R by
          rw [← HR.out]; symm
          have e1 : s.data.toList.getD i 0 = c := UInt8.toNat_inj.1 (by rw [hu, heq, HV.out])
          rw [List.getD, List.getElem?_eq_getElem (by omega), Option.getD_some] at e1
          exact decide_eq_true (e1 ▸ List.getElem_mem _))
        subst heq
        clear hu hls
        go_wp2
        go_ret
        exact ⟨by rw [← HT.out]; rfl, rfl⟩
      · have HN := Lib.hid (mem_take_next s.data.toList i c HE.out (by intro e1; rw [e1, HV.out] at hu; exact heq hu.symm) (by omega))
        have e4 : ((u : Int) == (v : Int)) = false := by rw [beq_eq_false_iff_ne]; omega
        clear hu hls heq
        go_wp2
        go_round
        case rel => exact ⟨i + 1, by omega, by go_num, HN⟩
        case measure => simp [intOf]; omega
    · have hsi : i = s.size := by omega
      have HN := Lib.hid (show false = R by
        rw [← HR.out]; symm
        have h := HE.out
        rw [hsi, ← hls, List.take_length] at h
        exact decide_eq_false h)
      clear hls
      go_wp2
      go_ret
      exact ⟨by rw [← HN.out]; rfl, rfl⟩
end Go.Proofs.YtimhjmeebahdaaaDoor
