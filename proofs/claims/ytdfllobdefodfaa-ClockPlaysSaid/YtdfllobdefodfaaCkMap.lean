/- A map from numbers to alarms. -/
import Derived.Test.YtdfllobdefodfaaCkM
import Derived.Test.YtdfllobdefodfaaKe
import Derived.Maps.OwnSet
namespace Go.Proofs.Ytdfllobdefodfaa
set_option linter.unusedVariables false
set_option linter.unusedSimpArgs false
open Go.RowKit Go.Maps

abbrev ptr (b : Nat) : Value := .pointer (some ⟨b, 0, none⟩)
/-- How a pointer in the map reads: by its block's number. -/
def RP : Value → Option (DataW Unit × List MemPlace)
  | .pointer none => some (.nil, [])
  | .pointer (some ⟨b, 0, none⟩) => some (.lit (.int .u64 (b : Int)), [])
  | _ => none
theorem RP_nil : RP (.pointer none) = some (.nil, []) := rfl
theorem RP_ptr (b : Nat) : RP (ptr b) = some (.lit (.int .u64 (b : Int)), []) := rfl
theorem RP_inv {v : Value} {b : Nat} {ps : List MemPlace} (h : RP v = some (.lit (.int .u64 (b : Int)), ps)) : v = ptr b := by
  unfold RP at h
  split at h
  · simp at h
  · simp at h
    obtain ⟨h, _⟩ := h
    have : (_ : Nat) = b := Int.ofNat.inj h
    subst this; rfl
  · cases h
theorem RP_inv_nil {v : Value} {ps : List MemPlace} (h : RP v = some (.nil, ps)) : v = .pointer none := by
  unfold RP at h
  split at h
  · rfl
  · simp at h
  · cases h

theorem klaw : Keyed Try.prog 3 := int_keyed Try.underlying3
theorem kzero (w : World) : (zeroValue 61).run Try.prog w = .ok (.pointer none) w := by kernel_rfl
abbrev Wf (x : Int) : Prop := (Lit.int .i64 x).wf = true
theorem kkey {x : Int} (h : Wf x) : keyOf Try.prog 3 (.int .i64 x) = some (.int .i64 x) := keyOf_int_mk Try.underlying3 h

/-- At mb lies a map of the alarms l, by their numbers. -/
structure Mp (u : World) (mb : Nat) (l : List Al) : Prop where
  few : l.length ≤ 1025
  ids : l.Pairwise (fun x y => x.id ≠ y.id)
  wf : ∀ x ∈ l, Wf x.id
  ex : ∃ D, u.ownsMap Try.prog 3 RP mb l.length D ∧ Maps.size D = l.length ∧ (∀ k, (∃ x ∈ l, x.id = k) ↔ Maps.has D (.int .i64 k) = true) ∧ ∀ x ∈ l, D.atKey (.int .i64 x.id) .nil = .lit (.int .u64 (x.b : Int))

theorem Mp.perm {u : World} {mb : Nat} {l m : List Al} (h : Mp u mb l) (p : l.Perm m) : Mp u mb m := by
  obtain ⟨h0, h1, h2, D, h3, h4, h5, h6⟩ := h
  have e := p.length_eq
  exact ⟨e ▸ h0, (p.pairwise_iff (fun {a b} (e : a.id ≠ b.id) => e.symm)).1 h1, fun x hx => h2 x (p.mem_iff.2 hx), D, e ▸ h3, e ▸ h4, fun k => by rw [← h5 k]; exact ⟨fun ⟨x, hx, hk⟩ => ⟨x, p.mem_iff.2 hx, hk⟩, fun ⟨x, hx, hk⟩ => ⟨x, p.mem_iff.1 hx, hk⟩⟩, fun x hx => h6 x (p.mem_iff.2 hx)⟩
theorem Mp.lt {u : World} {mb : Nat} {l : List Al} (h : Mp u mb l) : mb < u.heap.size := by
  obtain ⟨_, _, _, D, h3, _⟩ := h
  exact h3.lt
theorem Mp.ke {u u' : World} {mb : Nat} {l : List Al} {L : List Nat} (h : Mp u mb l) (k : Ke L u u') (hm : mb ∉ L) : Mp u' mb l := by
  obtain ⟨h0, h1, h2, D, ⟨es, clock, hb, r⟩, h4⟩ := h
  exact ⟨h0, h1, h2, D, ⟨es, clock, (k.block mb (lt_of_block hb) hm).trans hb, r⟩, h4⟩
/-- The same numbers at the same blocks. -/
theorem Mp.same {u : World} {mb : Nat} {l m : List Al} (h : Mp u mb l) (e : l.length = m.length) (hm : ∀ i, i < m.length → (nth m i).id = (nth l i).id ∧ (nth m i).b = (nth l i).b) : Mp u mb m := by
  obtain ⟨h0, h1, h2, D, h3, h4, h5, h6⟩ := h
  have em : m.map (fun x => (x.id, x.b)) = l.map (fun x => (x.id, x.b)) := by
    apply List.ext_getElem
    · simp [e]
    · intro i hi _
      simp only [List.length_map] at hi
      have := hm i hi
      simp only [List.getElem_map, nth_getElem hi, nth_getElem (l := l) (i := i) (by omega)]
      rw [this.1, this.2]
  have to : ∀ x ∈ m, ∃ y ∈ l, y.id = x.id ∧ y.b = x.b := fun x hx => by
    have : (x.id, x.b) ∈ l.map (fun x => (x.id, x.b)) := em ▸ List.mem_map.2 ⟨x, hx, rfl⟩
    obtain ⟨y, hy, e⟩ := List.mem_map.1 this
    injection e with e1 e2
    exact ⟨y, hy, e1, e2⟩
  have fro : ∀ x ∈ l, ∃ y ∈ m, y.id = x.id ∧ y.b = x.b := fun x hx => by
    have : (x.id, x.b) ∈ m.map (fun x => (x.id, x.b)) := em ▸ List.mem_map.2 ⟨x, hx, rfl⟩
    obtain ⟨y, hy, e⟩ := List.mem_map.1 this
    injection e with e1 e2
    exact ⟨y, hy, e1, e2⟩
  refine ⟨e ▸ h0, ?_, fun x hx => ?_, D, e ▸ h3, e ▸ h4, fun k => ?_, fun x hx => ?_⟩
  · have h7 : (l.map (fun x => (x.id, x.b))).Pairwise (fun x y => x.1 ≠ y.1) := List.pairwise_map.2 h1
    rw [← em] at h7
    exact (List.pairwise_map (f := fun x : Al => (x.id, x.b)) (R := fun x y => x.1 ≠ y.1)).1 h7
  · obtain ⟨y, hy, e1, _⟩ := to x hx
    rw [← e1]; exact h2 y hy
  · rw [← h5 k]
    exact ⟨fun ⟨x, hx, hk⟩ => let ⟨y, hy, e1, _⟩ := to x hx; ⟨y, hy, e1.trans hk⟩, fun ⟨x, hx, hk⟩ => let ⟨y, hy, e1, _⟩ := fro x hx; ⟨y, hy, e1.trans hk⟩⟩
  · obtain ⟨y, hy, e1, e2⟩ := to x hx
    rw [← e1, ← e2]; exact h6 y hy

theorem turned_ke {w w' : World} {b : Nat} (h : w.mapTurned w' b) : Ke [b] w w' := by
  have g := h.grown
  exact ⟨g.os, g.tape, g.output, g.size, fun k hk hn => g.block k hk (fun e => hn (by injection e with e; simp [e]))⟩

theorem Mp.hit {u : World} {mb : Nat} {l : List Al} (h : Mp u mb l) {x : Al} (hx : x ∈ l) :
    (Instr.lookup 56 (.map (some mb)) (.int .i64 x.id) true).run Try.prog u = .ok (.tuple #[ptr x.b, .bool true]) u := by
  obtain ⟨h0, h1, h2, D, h3, h4, h5, h6⟩ := h
  obtain ⟨v, ps, hr, hv⟩ := h3.look_ok klaw Try.underlying56 (kzero u) RP_nil (kkey (h2 x hx))
  rw [h6 x hx] at hv
  have e := RP_inv hv
  subst e
  rw [hr, (h5 x.id).1 ⟨x, hx, rfl⟩]
theorem Mp.miss {u : World} {mb : Nat} {l : List Al} (h : Mp u mb l) {k : Int} (hk : Wf k) (hn : ∀ x ∈ l, x.id ≠ k) :
    (Instr.lookup 56 (.map (some mb)) (.int .i64 k) true).run Try.prog u = .ok (.tuple #[.pointer none, .bool false]) u := by
  obtain ⟨h0, h1, h2, D, h3, h4, h5, h6⟩ := h
  obtain ⟨v, ps, hr, hv⟩ := h3.look_ok klaw Try.underlying56 (kzero u) RP_nil (kkey hk)
  have hf : Maps.has D (.int .i64 k) = false := by
    cases hh : Maps.has D (.int .i64 k)
    · rfl
    · obtain ⟨x, hx, e⟩ := (h5 k).2 hh
      exact absurd e (hn x hx)
  rw [atKey_of_not_has hf] at hv
  have e := RP_inv_nil hv
  subst e
  rw [hr, hf]
theorem Mp.len {u : World} {mb : Nat} {l : List Al} (h : Mp u mb l) (ty : TypeId) : (Builtin.len_ #[56] ty #[.map (some mb)]).run Try.prog u = .ok (.int .i64 (l.length : Int)) u := by
  obtain ⟨h0, h1, h2, D, h3, h4, h5, h6⟩ := h
  rw [h3.len Try.underlying56 ty, h4]
theorem Mp.store {u : World} {mb : Nat} {l : List Al} (h : Mp u mb l) (hl : l.length ≤ 1024) (x : Al) (hk : Wf x.id) (hn : ∀ y ∈ l, y.id ≠ x.id) :
    ∃ w', (Instr.mapUpdate 56 (.map (some mb)) (.int .i64 x.id) (ptr x.b)).run Try.prog u = .ok () w' ∧ Mp w' mb (x :: l) ∧ Ke [mb] u w' := by
  obtain ⟨h0, h1, h2, D, h3, h4, h5, h6⟩ := h
  obtain ⟨w', hr, h7, h8⟩ := h3.store klaw Try.underlying56 (by unfold maxLen; omega) (kkey hk) (RP_ptr x.b)
  have hf : Maps.has D (.int .i64 x.id) = false := by
    cases hh : Maps.has D (.int .i64 x.id)
    · rfl
    · obtain ⟨y, hy, e⟩ := (h5 x.id).2 hh
      exact absurd e (hn y hy)
  have hne : ∀ k : Int, k ≠ x.id → (Lit.int .i64 k) ≠ (Lit.int .i64 x.id) := fun k hk e => hk (by injection e)
  refine ⟨w', hr, ⟨by simp; omega, List.pairwise_cons.2 ⟨fun y hy => (hn y hy).symm, h1⟩, fun y hy => ?_, D.put (.int .i64 x.id) (.lit (.int .u64 (x.b : Int))), h7, ?_, fun k => ?_, fun y hy => ?_⟩, turned_ke h8⟩
  · rcases List.mem_cons.1 hy with rfl | hy
    · exact hk
    · exact h2 y hy
  · rw [Maps.size_put (h3.tidy klaw) _, hf, h4]
    simp
  · by_cases e : k = x.id
    · subst e
      rw [has_put_same h3.isMap (by trivial)]
      simp
    · rw [has_put_other (hne k e), ← h5 k]
      simp only [List.mem_cons]
      constructor
      · rintro ⟨y, rfl | hy, e1⟩
        · exact absurd e1.symm e
        · exact ⟨y, hy, e1⟩
      · rintro ⟨y, hy, e1⟩
        exact ⟨y, .inr hy, e1⟩
  · rcases List.mem_cons.1 hy with rfl | hy
    · exact atKey_put_same h3.isMap (by trivial) _ _
    · rw [atKey_put_other (hne _ (hn y hy))]
      exact h6 y hy
theorem Mp.drop {u : World} {mb : Nat} {l : List Al} {x : Al} (h : Mp u mb (x :: l)) (ty : TypeId) :
    ∃ w', (Builtin.delete_ #[56, 3] ty #[.map (some mb), .int .i64 x.id]).run Try.prog u = .ok (.tuple #[]) w' ∧ Mp w' mb l ∧ Ke [mb] u w' := by
  obtain ⟨h0, h1, h2, D, h3, h4, h5, h6⟩ := h
  obtain ⟨w', hr, h7, h8⟩ := h3.drop klaw Try.underlying56 (kkey (h2 x (List.mem_cons_self ..))) ty
  have hhas := (h5 x.id).1 ⟨x, List.mem_cons_self .., rfl⟩
  obtain ⟨hn, h1'⟩ := List.pairwise_cons.1 h1
  have hne : ∀ k : Int, k ≠ x.id → (Lit.int .i64 k) ≠ (Lit.int .i64 x.id) := fun k hk e => hk (by injection e)
  have hs : Maps.size (D.del (.int .i64 x.id)) = l.length := by
    have := Maps.size_del (k := .int .i64 x.id) (h3.tidy klaw)
    rw [hhas, h4] at this
    simpa using this
  have h7' : w'.ownsMap Try.prog 3 RP mb l.length (D.del (.int .i64 x.id)) := by
    obtain ⟨es, clock, hb, F, hsz, e⟩ := h7
    refine ⟨es, clock, hb, F, ?_, e⟩
    rw [e] at hs
    simp only [Maps.size, length_sorted, List.length_map, Array.length_toList] at hs
    omega
  refine ⟨w', hr, ⟨by simp at h0; omega, h1', fun y hy => h2 y (List.mem_cons_of_mem _ hy), D.del (.int .i64 x.id), h7', hs, fun k => ?_, fun y hy => ?_⟩, turned_ke h8⟩
  · by_cases e : k = x.id
    · subst e
      rw [has_del_same]
      simp only [Bool.false_eq_true, iff_false]
      rintro ⟨y, hy, e⟩
      exact hn y hy e.symm
    · rw [has_del_other (hne k e), ← h5 k]
      constructor
      · rintro ⟨y, hy, e1⟩; exact ⟨y, List.mem_cons_of_mem _ hy, e1⟩
      · rintro ⟨y, hy, e1⟩
        rcases List.mem_cons.1 hy with rfl | hy
        · exact absurd e1.symm e
        · exact ⟨y, hy, e1⟩
  · rw [atKey_del_other (hne _ (fun e => hn y hy e.symm))]
    exact h6 y (List.mem_cons_of_mem _ hy)
/-- A new one. -/
theorem Mp.made (w : World) : Mp (w.alloc (.map #[] 0)) w.heap.size [] :=
  ⟨by simp, .nil, (fun _ h => by cases h), ⟨DataW.map [], World.ownsMap_made _ _ _ _, rfl, (fun k => by simp [Maps.has]), (fun x h => by cases h)⟩⟩
end Go.Proofs.Ytdfllobdefodfaa
