/- Plain facts of alarms in order, for clock's laws. -/
import Derived.Test.YtdfllobdefodfaaCkLib
namespace Go.Proofs.Ytdfllobdefodfaa
set_option linter.unusedVariables false
set_option linter.unusedSimpArgs false
open Go.RowKit

theorem insM_last {x : Ky} : ∀ {S : List Ky}, (∀ y ∈ S, ¬ Kl x y) → insM x S = S ++ [x]
  | [], _ => rfl
  | y :: r, h => by
    unfold insM
    rw [if_neg (h y (List.mem_cons_self ..)), insM_last (fun z hz => h z (List.mem_cons_of_mem _ hz))]
    rfl
theorem atM_ins {k t : Int} : ∀ {S : List Ky}, (∀ y ∈ S, y.1 ≠ k) → atM k (insM (k, t) S) = some t
  | [], _ => by simp [insM, atM]
  | y :: r, h => by
    unfold insM
    split
    · simp [atM]
    · have := atM_ins (t := t) (fun z hz => h z (List.mem_cons_of_mem _ hz))
      have hy : (y.1 == k) = false := by simpa using h y (List.mem_cons_self ..)
      unfold atM at this ⊢
      rw [List.find?_cons, hy]
      exact this
theorem atM_set (k t : Int) (S : List Ky) : atM k (setM k t S) = some t := atM_ins (fun y hy => (outM_mem.1 hy).2)
theorem atM_none_iff {k : Int} {S : List Ky} : atM k S = none ↔ ∀ y ∈ S, y.1 ≠ k := by
  unfold atM
  simp [List.find?_eq_none]

theorem u16_nat {x : Int} (h : (Lit.int .u16 x).wf = true) : ∃ M : Nat, x = (M : Int) ∧ M ≤ 65535 := by
  have e1 : IntKind.u16.min = 0 := by decide
  have e2 : IntKind.u16.max = 65535 := by decide
  simp only [Lit.wf, e1, e2, Bool.and_eq_true, decide_eq_true_eq] at h
  exact ⟨x.toNat, by omega, by omega⟩
theorem u8_nat' {x : Int} (h : (Lit.int .u8 x).wf = true) : ∃ M : Nat, x = (M : Int) ∧ M ≤ 255 := by
  have e1 : IntKind.u8.min = 0 := by decide
  have e2 : IntKind.u8.max = 255 := by decide
  simp only [Lit.wf, e1, e2, Bool.and_eq_true, decide_eq_true_eq] at h
  exact ⟨x.toNat, by omega, by omega⟩
theorem wf_nat {k : Nat} (h : k ≤ 9223372036854775807) : Wf (k : Int) := by
  have e1 : IntKind.i64.min = -9223372036854775808 := by decide
  have e2 : IntKind.i64.max = 9223372036854775807 := by decide
  simp only [Wf, Lit.wf, e1, e2, Bool.and_eq_true, decide_eq_true_eq]
  omega
theorem wf_int {x : Int} (h0 : -9223372036854775808 ≤ x) (h : x ≤ 9223372036854775807) : Wf x := by
  have e1 : IntKind.i64.min = -9223372036854775808 := by decide
  have e2 : IntKind.i64.max = 9223372036854775807 := by decide
  simp only [Wf, Lit.wf, e1, e2, Bool.and_eq_true, decide_eq_true_eq]
  omega
theorem wf_bounds {x : Int} (h : Wf x) : -9223372036854775808 ≤ x ∧ x ≤ 9223372036854775807 := by
  have e1 : IntKind.i64.min = -9223372036854775808 := by decide
  have e2 : IntKind.i64.max = 9223372036854775807 := by decide
  simp only [Wf, Lit.wf, e1, e2, Bool.and_eq_true, decide_eq_true_eq] at h
  omega

/-- So many alarms, of the numbers from 0 on, one behind the other. -/
def fullS (m : Nat) : List Ky := (List.range m).map (fun j : Nat => ((j : Int), 5 + (j : Int)))
theorem fullS_mem {m : Nat} {y : Ky} (h : y ∈ fullS m) : ∃ j : Nat, j < m ∧ y = ((j : Int), 5 + (j : Int)) := by
  unfold fullS at h
  obtain ⟨j, hj, rfl⟩ := List.mem_map.1 h
  exact ⟨j, List.mem_range.1 hj, rfl⟩
theorem fullS_length (m : Nat) : (fullS m).length = m := by simp [fullS]
theorem fullS_at (m k : Nat) : atM (k : Int) (fullS m) = none ↔ m ≤ k := by
  rw [atM_none_iff]
  constructor
  · intro h
    rcases Nat.lt_or_ge k m with hk | hk
    · exact absurd rfl (h ((k : Int), 5 + (k : Int)) (by unfold fullS; exact List.mem_map.2 ⟨k, List.mem_range.2 hk, rfl⟩))
    · exact hk
  · intro h y hy e
    obtain ⟨j, hj, rfl⟩ := fullS_mem hy
    simp at e
    omega
theorem fullS_set (m : Nat) : setM (m : Int) (5 + (m : Int)) (fullS m) = fullS (m + 1) := by
  unfold setM
  rw [out_none (fun y hy => by
    obtain ⟨j, hj, rfl⟩ := fullS_mem hy
    simp; omega), insM_last (fun y hy => by
    obtain ⟨j, hj, rfl⟩ := fullS_mem hy
    unfold Kl; simp; omega)]
  unfold fullS
  rw [List.range_succ]
  simp
theorem full_room (i : Nat) (hi : i < 1024) : setE 0 (fullS i) (i : Int) (5 + (i : Int)) = 0 ∧ setS 0 (fullS i) (i : Int) (5 + (i : Int)) = fullS (i + 1) := by
  have := setE_ok (now := 0) (S := fullS i) (k := (i : Int)) (t := 5 + (i : Int)) (by omega) (by rw [fullS_length]; omega)
  rw [fullS_set] at this
  exact this
theorem full_none (i : Nat) (hi : 1024 ≤ i) (hi2 : i ≤ 1100) : setE 0 (fullS 1024) (i : Int) (5 + (i : Int)) = 2 ∧ setS 0 (fullS 1024) (i : Int) (5 + (i : Int)) = fullS 1024 :=
  setE_many (by omega) ⟨(fullS_at _ _).2 hi, by rw [fullS_length]; omega⟩

theorem set_length (now : Int) (S : List Ky) (k t : Int) : (setS now S k t).length ≤ S.length + 1 := by
  unfold setS
  split
  · unfold setM
    rw [(insM_perm _ _).length_eq, List.length_cons]
    have := out_length_le k S
    omega
  · omega
theorem set_pos (k t : Int) (S : List Ky) : 1 ≤ (setM k t S).length := by
  unfold setM
  rw [(insM_perm _ _).length_eq, List.length_cons]
  omega
theorem at_out (k : Int) (S : List Ky) : atM k (outM k S) = none := atM_none_iff.2 (fun y hy => (outM_mem.1 hy).2)
theorem setM_mem {k t : Int} {S : List Ky} {y : Ky} : y ∈ setM k t S ↔ y = (k, t) ∨ (y ∈ S ∧ y.1 ≠ k) := by
  unfold setM
  rw [insM_mem, outM_mem]
theorem go_mem {n : Int} {S : List Ky} {x : Int} : x ∈ goM n S ↔ ∃ y ∈ S, y.2 ≤ n ∧ y.1 = x := by
  unfold goM
  simp only [List.mem_map, List.mem_filter, decide_eq_true_eq]
  exact ⟨fun ⟨y, ⟨h1, h2⟩, h3⟩ => ⟨y, h1, h2, h3⟩, fun ⟨y, h1, h2, h3⟩ => ⟨y, ⟨h1, h2⟩, h3⟩⟩
theorem stay_mem {n : Int} {S : List Ky} {y : Ky} : y ∈ stayM n S ↔ y ∈ S ∧ n < y.2 := by
  unfold stayM
  simp [List.mem_filter]
theorem go_length_le (n : Int) (S : List Ky) : (goM n S).length ≤ S.length := by
  unfold goM
  rw [List.length_map]
  exact List.length_filter_le _ _
/-- Two steps of time are as one. -/
theorem go_two {a b : Int} (hab : a ≤ b) : ∀ {S : List Ky}, Srt S → goM a S ++ goM b (stayM a S) = goM b S
  | [], _ => rfl
  | y :: r, h => by
    by_cases hy : y.2 ≤ a
    · obtain ⟨e1, e2⟩ := go_cons (S := r) (n := a) hy
      obtain ⟨e3, _⟩ := go_cons (S := r) (n := b) (show y.2 ≤ b by omega)
      rw [e1, e2, e3, List.cons_append, go_two hab h.tail]
    · obtain ⟨e1, e2⟩ := stay_all h hy
      rw [e1, e2, List.nil_append]
theorem stay_two {a b : Int} (hab : a ≤ b) (S : List Ky) : stayM b (stayM a S) = stayM b S := by
  unfold stayM
  rw [List.filter_filter]
  congr 1
  funext x
  by_cases h : x.2 ≤ b
  · simp [h]
  · have : ¬ x.2 ≤ a := by omega
    simp [h, this]

theorem has_b (A : Option Addr) (cp : Nat) (L : List Int) (K : List Nat) (u : World) (n : Nat) (x : Int) (b : Bool) (hb : decide (x ∈ L) = b) (hn : L.length = n) (hR : Ri u K A L) (hc : n ≤ 9223372036854775807) :
    Calls Try.prog 23 #[.slice A n cp, .int .i64 x] u fun e u' => e = .returned (.bool b) ∧ u' = u := hb ▸ has_ok A cp L K u n x hn hR hc
end Go.Proofs.Ytdfllobdefodfaa
