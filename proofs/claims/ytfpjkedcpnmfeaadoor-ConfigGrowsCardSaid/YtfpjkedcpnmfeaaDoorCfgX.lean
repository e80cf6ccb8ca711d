/- Configurations that are changed: plain mathematics. -/
import Derived.Test.YtfpjkedcpnmfeaaDoorM3
namespace Go.Proofs.YtfpjkedcpnmfeaaDoor
set_option linter.unusedVariables false
set_option linter.unusedSimpArgs false

theorem bl_irrefl : ∀ x : List UInt8, Op.bytesLess x x = false
  | [] => rfl
  | a :: x => by
    have ih := bl_irrefl x
    simp only [Op.bytesLess, ih]
    simp
theorem bl_trans : ∀ x y z : List UInt8, Op.bytesLess x y = true → Op.bytesLess y z = true → Op.bytesLess x z = true
  | [], _, [], _, h => by revert h; cases ‹List UInt8› <;> simp [Op.bytesLess]
  | [], _, c :: z, _, _ => by simp [Op.bytesLess]
  | a :: x, [], z, h, _ => by simp [Op.bytesLess] at h
  | a :: x, b :: y, [], _, h => by simp [Op.bytesLess] at h
  | a :: x, b :: y, c :: z, h1, h2 => by
    have ih := bl_trans x y z
    simp only [Op.bytesLess, Bool.or_eq_true, Bool.and_eq_true, decide_eq_true_eq, beq_iff_eq] at h1 h2 ⊢
    rcases h1 with h1 | ⟨rfl, h1⟩
    · rcases h2 with h2 | ⟨rfl, h2⟩
      · exact .inl (by rw [UInt8.lt_iff_toNat_lt] at *; omega)
      · exact .inl h1
    · rcases h2 with h2 | ⟨rfl, h2⟩
      · exact .inl h2
      · exact .inr ⟨rfl, ih h1 h2⟩
theorem ltS_irrefl (a : ByteArray) : ltS a a = false := bl_irrefl _
theorem ltS_trans {a b c : ByteArray} (h : ltS a b = true) (k : ltS b c = true) : ltS a c = true := bl_trans _ _ _ h k
theorem rise_last : ∀ (A : List ByteArray) (l x : ByteArray), rise l (A ++ [x]) = true → ltS l x = true ∧ ∀ y ∈ A, ltS y x = true
  | [], l, x, h => by
    rw [List.nil_append, rise, Bool.and_eq_true, Bool.and_eq_true] at h
    exact ⟨h.1.2, fun y hy => by cases hy⟩
  | a :: A, l, x, h => by
    rw [List.cons_append, rise, Bool.and_eq_true, Bool.and_eq_true] at h
    obtain ⟨k1, k2⟩ := rise_last A a x h.2
    refine ⟨ltS_trans h.1.2 k1, fun y hy => ?_⟩
    rcases List.mem_cons.1 hy with rfl | hy
    · exact k1
    · exact k2 y hy
theorem cfg_twice {c : Cg} {t : Tn} (ht : t ∈ c.tens) : cfgB { c with tens := c.tens ++ [t] } = false := by
  cases h : cfgB { c with tens := c.tens ++ [t] } with
  | false => rfl
  | true =>
    obtain ⟨_, _, _, _, _, h6, _⟩ := cfgB_parts h
    simp only [List.map_append, List.map_cons, List.map_nil] at h6
    have := (rise_last _ _ _ h6).2 t.name (List.mem_map.2 ⟨t, ht, rfl⟩)
    rw [ltS_irrefl] at this
    cases this
theorem cfg_idle0 (a b d : Int) (T : List Tn) : cfgB ⟨a, b, 0, d, T⟩ = false := by
  cases h : cfgB ⟨a, b, 0, d, T⟩ with
  | false => rfl
  | true => obtain ⟨_, _, h3, _⟩ := cfgB_parts h; cases h3
theorem cfg_waitB (b d e : Int) (T : List Tn) : cfgB ⟨1073741825, b, d, e, T⟩ = false := by
  cases h : cfgB ⟨1073741825, b, d, e, T⟩ with
  | false => rfl
  | true => obtain ⟨h1, _⟩ := cfgB_parts h; cases h1
theorem cfg_quota {c : Cg} {t : Tn} (ht : t ∈ c.tens) (h9 : t.visitors = 9) : cfgB c = false := by
  cases h : cfgB c with
  | false => rfl
  | true =>
    obtain ⟨_, _, _, _, _, _, h7⟩ := cfgB_parts h
    obtain ⟨_, h2, _⟩ := tenB_parts (h7 t ht)
    rw [h9] at h2
    cases h2
end Go.Proofs.YtfpjkedcpnmfeaaDoor
