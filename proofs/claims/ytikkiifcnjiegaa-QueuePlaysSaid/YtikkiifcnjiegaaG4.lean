/- QuMap, QuN, QuO, Sp: texts of this seat, one behind the other. -/
import Derived.Test.YtikkiifcnjiegaaG1
import Derived.Test.YtikkiifcnjiegaaG3
import Derived.Maps.OwnSet
import Derived.Sort.KeysCollected
import Derived.Maps.RangeWalk
/- The queue's two maps: from names to rows, from numbers to rows (pointers, by their blocks' numbers); a range over the first one. -/
namespace Go.Proofs.Ytikkiifcnjiegaa
set_option linter.unusedVariables false
set_option maxRecDepth 100000
set_option linter.unusedSimpArgs false
open Go.RowKit Go.Maps

abbrev qptr (b : Nat) : Value := .pointer (some ⟨b, 0, none⟩)
/-- How a pointer in the map reads: by its block's number. -/
def qRP : Value → Option (DataW Unit × List MemPlace)
  | .pointer none => some (.nil, [])
  | .pointer (some ⟨b, 0, none⟩) => some (.lit (.int .u64 (b : Int)), [])
  | _ => none
theorem qRP_nil : qRP (.pointer none) = some (.nil, []) := rfl
theorem qRP_ptr (b : Nat) : qRP (qptr b) = some (.lit (.int .u64 (b : Int)), []) := rfl
theorem qRP_inv {v : Value} {b : Nat} {ps : List MemPlace} (h : qRP v = some (.lit (.int .u64 (b : Int)), ps)) : v = qptr b := by
  unfold qRP at h
  split at h
  · simp at h
  · simp at h
    obtain ⟨h, _⟩ := h
    have : (_ : Nat) = b := Int.ofNat.inj h
    subst this; rfl
  · cases h
theorem qRP_inv_nil {v : Value} {ps : List MemPlace} (h : qRP v = some (.nil, ps)) : v = .pointer none := by
  unfold qRP at h
  split at h
  · rfl
  · simp at h
  · cases h
theorem qlaw : Keyed Try.prog 9 := string_keyed Try.underlying9
theorem qzero (w : World) : (zeroValue 52).run Try.prog w = .ok (.pointer none) w := by kernel_rfl
theorem qkey {s : ByteArray} (h : s.size ≤ 140737488355328) : keyOf Try.prog 9 (.string s) = some (.string s.data.toList) := by
  unfold keyOf
  simp only [Try.underlying9]
  simp [mapKey]
  all_goals (try (unfold maxLen; omega))
theorem qkey_ne {a b : ByteArray} (h : a ≠ b) : (Lit.string a.data.toList) ≠ (Lit.string b.data.toList) := fun e => h (by
  injection e with e
  apply ByteArray.ext
  exact Array.toList_inj.1 e)

/-- At mb lies the map of those names to those blocks. -/
structure Mq (u : World) (mb : Nat) (l : List (ByteArray × Nat)) : Prop where
  few : l.length ≤ 1025
  ids : l.Pairwise (fun x y => x.1 ≠ y.1)
  wf : ∀ x ∈ l, x.1.size ≤ 140737488355328
  ex : ∃ D, u.ownsMap Try.prog 9 qRP mb l.length D ∧ (∀ k : ByteArray, (∃ x ∈ l, x.1 = k) ↔ Maps.has D (.string k.data.toList) = true) ∧ ∀ x ∈ l, D.atKey (.string x.1.data.toList) .nil = .lit (.int .u64 (x.2 : Int))
theorem mq_perm {u : World} {mb n : Nat} {D : DataW Unit} {l : List (ByteArray × Nat)} (h : u.ownsMap Try.prog 9 qRP mb n D) (ids : l.Pairwise (fun x y => x.1 ≠ y.1)) (hi : ∀ k : ByteArray, (∃ x ∈ l, x.1 = k) ↔ Maps.has D (.string k.data.toList) = true) :
    (l.map fun x => x.1.data.toList).Perm (strKeys D) := by
  refine Collected.perm (left := fun _ => false) ⟨?_, fun x => ?_⟩ h qlaw Try.underlying9 (fun _ => rfl)
  · refine List.pairwise_map.2 (ids.imp fun {a b} hne e => hne ?_)
    apply ByteArray.ext
    exact Array.toList_inj.1 e
  · have := hi ⟨x.toArray⟩
    simp only [List.mem_map]
    constructor
    · rintro ⟨y, hy, rfl⟩
      exact ⟨by have := (hi y.1).1 ⟨y, hy, rfl⟩; exact this, by first | rfl | trivial⟩
    · rintro ⟨h1, _⟩
      obtain ⟨y, hy, e⟩ := this.2 (by simpa using h1)
      exact ⟨y, hy, by rw [e]⟩
theorem qsize_strKeys {D : DataW Unit} (h : IsMap D) : Maps.size D = (strKeys D).length := by
  obtain ⟨es, rfl⟩ := h
  simp [Maps.size, strKeys]
theorem mq_size {u : World} {mb n : Nat} {D : DataW Unit} {l : List (ByteArray × Nat)} (h : u.ownsMap Try.prog 9 qRP mb n D) (ids : l.Pairwise (fun x y => x.1 ≠ y.1)) (hi : ∀ k : ByteArray, (∃ x ∈ l, x.1 = k) ↔ Maps.has D (.string k.data.toList) = true) : Maps.size D = l.length := by
  rw [qsize_strKeys (h.tidy qlaw).isMap, ← (mq_perm h ids hi).length_eq, List.length_map]
theorem Mq.of {u : World} {mb n : Nat} {D : DataW Unit} {l : List (ByteArray × Nat)} (few : l.length ≤ 1025) (ids : l.Pairwise (fun x y => x.1 ≠ y.1)) (wf : ∀ x ∈ l, x.1.size ≤ 140737488355328) (h : u.ownsMap Try.prog 9 qRP mb n D)
    (hi : ∀ k : ByteArray, (∃ x ∈ l, x.1 = k) ↔ Maps.has D (.string k.data.toList) = true) (ha : ∀ x ∈ l, D.atKey (.string x.1.data.toList) .nil = .lit (.int .u64 (x.2 : Int))) : Mq u mb l := by
  have hs := mq_size h ids hi
  refine ⟨few, ids, wf, D, ?_, hi, ha⟩
  obtain ⟨es, clock, hb, F, hsz, e⟩ := h
  refine ⟨es, clock, hb, F, ?_, e⟩
  rw [e] at hs
  simp only [Maps.size, length_sorted, List.length_map, Array.length_toList] at hs
  omega
theorem Mq.lt {u : World} {mb : Nat} {l : List (ByteArray × Nat)} (h : Mq u mb l) : mb < u.heap.size := by
  obtain ⟨_, _, _, D, h3, _⟩ := h
  exact h3.lt
theorem Mq.block {u : World} {mb : Nat} {l : List (ByteArray × Nat)} (h : Mq u mb l) : ∃ es ck, u.heap[mb]? = some (.map es ck) := by
  obtain ⟨_, _, _, D, ⟨es, clock, hb, _⟩, _⟩ := h
  exact ⟨es, clock, hb⟩
theorem Mq.ke {u u' : World} {mb : Nat} {l : List (ByteArray × Nat)} {L : List Nat} (h : Mq u mb l) (k : Ke L u u') (hm : mb ∉ L) : Mq u' mb l := by
  obtain ⟨h0, h1, h2, D, ⟨es, clock, hb, r⟩, h4⟩ := h
  exact ⟨h0, h1, h2, D, ⟨es, clock, (k.block mb (lt_of_block hb) hm).trans hb, r⟩, h4⟩
theorem Mq.perm {u : World} {mb : Nat} {l m : List (ByteArray × Nat)} (h : Mq u mb l) (p : l.Perm m) : Mq u mb m := by
  obtain ⟨h0, h1, h2, D, h3, h5, h6⟩ := h
  have e := p.length_eq
  exact ⟨e ▸ h0, (p.pairwise_iff (fun {a b} (e : a.1 ≠ b.1) => e.symm)).1 h1, fun x hx => h2 x (p.mem_iff.2 hx), D, e ▸ h3, fun k => by rw [← h5 k]; exact ⟨fun ⟨x, hx, hk⟩ => ⟨x, p.mem_iff.2 hx, hk⟩, fun ⟨x, hx, hk⟩ => ⟨x, p.mem_iff.1 hx, hk⟩⟩, fun x hx => h6 x (p.mem_iff.2 hx)⟩
theorem qturned_ke {w w' : World} {b : Nat} (h : w.mapTurned w' b) : Ke [b] w w' := by
  have g := h.grown
  exact ⟨g.os, g.tape, g.output, g.size, fun k hk hn => g.block k hk (fun e => hn (by injection e with e; simp [e]))⟩
theorem Mq.hit {u : World} {mb : Nat} {l : List (ByteArray × Nat)} (h : Mq u mb l) {s : ByteArray} {b : Nat} (hx : (s, b) ∈ l) :
    (Instr.lookup 48 (.map (some mb)) (.string s) true).run Try.prog u = .ok (.tuple #[qptr b, .bool true]) u := by
  obtain ⟨h0, h1, h2, D, h3, h5, h6⟩ := h
  obtain ⟨v, ps, hr, hv⟩ := h3.look_ok qlaw Try.underlying48 (qzero u) qRP_nil (qkey (h2 _ hx))
  rw [h6 _ hx] at hv
  have e := qRP_inv hv
  subst e
  rw [hr, (h5 s).1 ⟨_, hx, rfl⟩]
theorem Mq.hit1 {u : World} {mb : Nat} {l : List (ByteArray × Nat)} (h : Mq u mb l) {s : ByteArray} {b : Nat} (hx : (s, b) ∈ l) :
    (Instr.lookup 48 (.map (some mb)) (.string s) false).run Try.prog u = .ok (qptr b) u := by
  obtain ⟨h0, h1, h2, D, h3, h5, h6⟩ := h
  obtain ⟨v, ps, hr, hv⟩ := h3.lookup qlaw Try.underlying48 (qzero u) qRP_nil (qkey (h2 _ hx))
  rw [h6 _ hx] at hv
  have e := qRP_inv hv
  subst e
  exact hr
theorem Mq.miss {u : World} {mb : Nat} {l : List (ByteArray × Nat)} (h : Mq u mb l) {s : ByteArray} (hk : s.size ≤ 140737488355328) (hn : ∀ x ∈ l, x.1 ≠ s) :
    (Instr.lookup 48 (.map (some mb)) (.string s) true).run Try.prog u = .ok (.tuple #[.pointer none, .bool false]) u := by
  obtain ⟨h0, h1, h2, D, h3, h5, h6⟩ := h
  obtain ⟨v, ps, hr, hv⟩ := h3.look_ok qlaw Try.underlying48 (qzero u) qRP_nil (qkey hk)
  have hf : Maps.has D (.string s.data.toList) = false := by
    cases hh : Maps.has D (.string s.data.toList)
    · rfl
    · obtain ⟨x, hx, e⟩ := (h5 s).2 hh
      exact absurd e (hn x hx)
  rw [atKey_of_not_has hf] at hv
  have e := qRP_inv_nil hv
  subst e
  rw [hr, hf]
theorem Mq.len {u : World} {mb : Nat} {l : List (ByteArray × Nat)} (h : Mq u mb l) (ty : TypeId) (n : Nat) (hn : l.length = n) : (Builtin.len_ #[48] ty #[.map (some mb)]).run Try.prog u = .ok (.int .i64 (n : Int)) u := by
  obtain ⟨h0, h1, h2, D, h3, h5, h6⟩ := h
  rw [h3.len Try.underlying48 ty, mq_size h3 h1 h5, hn]
/-- What is left without a name. -/
def outM (s : ByteArray) (l : List (ByteArray × Nat)) : List (ByteArray × Nat) := l.filter fun y => !nmQ y.1 s
theorem mem_outM {s : ByteArray} {l : List (ByteArray × Nat)} {y : ByteArray × Nat} : y ∈ outM s l ↔ y ∈ l ∧ y.1 ≠ s := by
  unfold outM
  rw [List.mem_filter]
  constructor
  · rintro ⟨h1, h2⟩
    exact ⟨h1, fun e => by rw [(nmQ_iff _ _).2 e] at h2; cases h2⟩
  · rintro ⟨h1, h2⟩
    refine ⟨h1, ?_⟩
    cases hq : nmQ y.1 s with
    | false => rfl
    | true => exact absurd ((nmQ_iff _ _).1 hq) h2
theorem Mq.store {u : World} {mb : Nat} {l : List (ByteArray × Nat)} {s : ByteArray} (h : Mq u mb l) (hl : (outM s l).length ≤ 1024) (b : Nat) (hk : s.size ≤ 140737488355328) :
    ∃ w', (Instr.mapUpdate 48 (.map (some mb)) (.string s) (qptr b)).run Try.prog u = .ok () w' ∧ Mq w' mb ((s, b) :: outM s l) ∧ Ke [mb] u w' := by
  obtain ⟨h0, h1, h2, D, h3, h5, h6⟩ := h
  obtain ⟨w', hr, h7, h8⟩ := h3.store qlaw Try.underlying48 (by unfold maxLen; omega) (qkey hk) (qRP_ptr b)
  refine ⟨w', hr, Mq.of (by simp; omega) (List.pairwise_cons.2 ⟨fun y hy => (mem_outM.1 hy).2.symm, h1.filter _⟩) (fun y hy => ?_) h7 (fun k => ?_) (fun y hy => ?_), qturned_ke h8⟩
  · rcases List.mem_cons.1 hy with rfl | hy
    · exact hk
    · exact h2 y (mem_outM.1 hy).1
  · by_cases e : k = s
    · subst e
      rw [has_put_same h3.isMap (by trivial)]
      simp
    · rw [has_put_other (qkey_ne e), ← h5 k]
      simp only [List.mem_cons]
      constructor
      · rintro ⟨y, rfl | hy, e1⟩
        · exact absurd e1.symm e
        · exact ⟨y, (mem_outM.1 hy).1, e1⟩
      · rintro ⟨y, hy, e1⟩
        exact ⟨y, .inr (mem_outM.2 ⟨hy, e1 ▸ e⟩), e1⟩
  · rcases List.mem_cons.1 hy with rfl | hy
    · exact atKey_put_same h3.isMap (by trivial) _ _
    · obtain ⟨hy1, hy2⟩ := mem_outM.1 hy
      rw [atKey_put_other (qkey_ne hy2)]
      exact h6 y hy1
theorem Mq.drop {u : World} {mb : Nat} {l : List (ByteArray × Nat)} (h : Mq u mb l) (s : ByteArray) (hk : s.size ≤ 140737488355328) (ty : TypeId) :
    ∃ w', (Builtin.delete_ #[48, 9] ty #[.map (some mb), .string s]).run Try.prog u = .ok (.tuple #[]) w' ∧ Mq w' mb (outM s l) ∧ Ke [mb] u w' := by
  obtain ⟨h0, h1, h2, D, h3, h5, h6⟩ := h
  obtain ⟨w', hr, h7, h8⟩ := h3.drop qlaw Try.underlying48 (qkey hk) ty
  refine ⟨w', hr, Mq.of (Nat.le_trans (List.length_filter_le _ _) h0) (h1.filter _) (fun y hy => h2 y (mem_outM.1 hy).1) h7 (fun k => ?_) (fun y hy => ?_), qturned_ke h8⟩
  · by_cases e : k = s
    · subst e
      rw [has_del_same]
      simp only [Bool.false_eq_true, iff_false]
      rintro ⟨y, hy, e⟩
      exact (mem_outM.1 hy).2 e
    · rw [has_del_other (qkey_ne e), ← h5 k]
      constructor
      · rintro ⟨y, hy, e1⟩; exact ⟨y, (mem_outM.1 hy).1, e1⟩
      · rintro ⟨y, hy, e1⟩
        exact ⟨y, mem_outM.2 ⟨hy, e1 ▸ e⟩, e1⟩
  · obtain ⟨hy1, hy2⟩ := mem_outM.1 hy
    rw [atKey_del_other (qkey_ne hy2)]
    exact h6 y hy1
/-- A new one. -/
theorem Mq.made (w : World) : Mq (w.alloc (.map #[] 0)) w.heap.size [] :=
  ⟨by simp, .nil, (fun _ h => by cases h), ⟨DataW.map [], World.ownsMap_made _ _ _ _, (fun k => by simp [Maps.has]), (fun x h => by cases h)⟩⟩

theorem outM_self {s : ByteArray} {l : List (ByteArray × Nat)} (h : ∀ x ∈ l, x.1 ≠ s) : outM s l = l := by
  unfold outM
  refine List.filter_eq_self.2 fun x hx => ?_
  cases hq : nmQ x.1 s with
  | false => rfl
  | true => exact absurd ((nmQ_iff _ _).1 hq) (h x hx)

theorem qilaw : Keyed Try.prog 3 := int_keyed Try.underlying3
abbrev WfI (x : Int) : Prop := (Lit.int .i64 x).wf = true
theorem qikey {x : Int} (h : WfI x) : keyOf Try.prog 3 (.int .i64 x) = some (.int .i64 x) := keyOf_int_mk Try.underlying3 h
theorem qine {a b : Int} (h : a ≠ b) : (Lit.int .i64 a) ≠ (Lit.int .i64 b) := fun e => h (by injection e)
/-- At mb lies the map of those numbers to those blocks. -/
structure Mi (u : World) (mb : Nat) (l : List (Int × Nat)) : Prop where
  few : l.length ≤ 1025
  ids : l.Pairwise (fun x y => x.1 ≠ y.1)
  wf : ∀ x ∈ l, WfI x.1
  ex : ∃ D, u.ownsMap Try.prog 3 qRP mb l.length D ∧ Maps.size D = l.length ∧ (∀ k, (∃ x ∈ l, x.1 = k) ↔ Maps.has D (.int .i64 k) = true) ∧ ∀ x ∈ l, D.atKey (.int .i64 x.1) .nil = .lit (.int .u64 (x.2 : Int))

theorem Mi.perm {u : World} {mb : Nat} {l m : List (Int × Nat)} (h : Mi u mb l) (p : l.Perm m) : Mi u mb m := by
  obtain ⟨h0, h1, h2, D, h3, h4, h5, h6⟩ := h
  have e := p.length_eq
  exact ⟨e ▸ h0, (p.pairwise_iff (fun {a b} (e : a.1 ≠ b.1) => e.symm)).1 h1, fun x hx => h2 x (p.mem_iff.2 hx), D, e ▸ h3, e ▸ h4, fun k => by rw [← h5 k]; exact ⟨fun ⟨x, hx, hk⟩ => ⟨x, p.mem_iff.2 hx, hk⟩, fun ⟨x, hx, hk⟩ => ⟨x, p.mem_iff.1 hx, hk⟩⟩, fun x hx => h6 x (p.mem_iff.2 hx)⟩
theorem Mi.lt {u : World} {mb : Nat} {l : List (Int × Nat)} (h : Mi u mb l) : mb < u.heap.size := by
  obtain ⟨_, _, _, D, h3, _⟩ := h
  exact h3.lt
theorem Mi.block {u : World} {mb : Nat} {l : List (Int × Nat)} (h : Mi u mb l) : ∃ es ck, u.heap[mb]? = some (.map es ck) := by
  obtain ⟨_, _, _, D, ⟨es, clock, hb, _⟩, _⟩ := h
  exact ⟨es, clock, hb⟩
theorem Mi.ke {u u' : World} {mb : Nat} {l : List (Int × Nat)} {L : List Nat} (h : Mi u mb l) (k : Ke L u u') (hm : mb ∉ L) : Mi u' mb l := by
  obtain ⟨h0, h1, h2, D, ⟨es, clock, hb, r⟩, h4⟩ := h
  exact ⟨h0, h1, h2, D, ⟨es, clock, (k.block mb (lt_of_block hb) hm).trans hb, r⟩, h4⟩
theorem Mi.hit {u : World} {mb : Nat} {l : List (Int × Nat)} (h : Mi u mb l) {x : Int × Nat} (hx : x ∈ l) :
    (Instr.lookup 49 (.map (some mb)) (.int .i64 x.1) true).run Try.prog u = .ok (.tuple #[qptr x.2, .bool true]) u := by
  obtain ⟨h0, h1, h2, D, h3, h4, h5, h6⟩ := h
  obtain ⟨v, ps, hr, hv⟩ := h3.look_ok qilaw Try.underlying49 (qzero u) qRP_nil (qikey (h2 x hx))
  rw [h6 x hx] at hv
  have e := qRP_inv hv
  subst e
  rw [hr, (h5 x.1).1 ⟨x, hx, rfl⟩]
theorem Mi.miss {u : World} {mb : Nat} {l : List (Int × Nat)} (h : Mi u mb l) {k : Int} (hk : WfI k) (hn : ∀ x ∈ l, x.1 ≠ k) :
    (Instr.lookup 49 (.map (some mb)) (.int .i64 k) true).run Try.prog u = .ok (.tuple #[.pointer none, .bool false]) u := by
  obtain ⟨h0, h1, h2, D, h3, h4, h5, h6⟩ := h
  obtain ⟨v, ps, hr, hv⟩ := h3.look_ok qilaw Try.underlying49 (qzero u) qRP_nil (qikey hk)
  have hf : Maps.has D (.int .i64 k) = false := by
    cases hh : Maps.has D (.int .i64 k)
    · rfl
    · obtain ⟨x, hx, e⟩ := (h5 k).2 hh
      exact absurd e (hn x hx)
  rw [atKey_of_not_has hf] at hv
  have e := qRP_inv_nil hv
  subst e
  rw [hr, hf]
theorem Mi.len {u : World} {mb : Nat} {l : List (Int × Nat)} (h : Mi u mb l) (ty : TypeId) : (Builtin.len_ #[49] ty #[.map (some mb)]).run Try.prog u = .ok (.int .i64 (l.length : Int)) u := by
  obtain ⟨h0, h1, h2, D, h3, h4, h5, h6⟩ := h
  rw [h3.len Try.underlying49 ty, h4]
theorem Mi.store {u : World} {mb : Nat} {l : List (Int × Nat)} (h : Mi u mb l) (hl : l.length ≤ 1024) (x : Int × Nat) (hk : WfI x.1) (hn : ∀ y ∈ l, y.1 ≠ x.1) :
    ∃ w', (Instr.mapUpdate 49 (.map (some mb)) (.int .i64 x.1) (qptr x.2)).run Try.prog u = .ok () w' ∧ Mi w' mb (x :: l) ∧ Ke [mb] u w' := by
  obtain ⟨h0, h1, h2, D, h3, h4, h5, h6⟩ := h
  obtain ⟨w', hr, h7, h8⟩ := h3.store qilaw Try.underlying49 (by unfold maxLen; omega) (qikey hk) (qRP_ptr x.2)
  have hf : Maps.has D (.int .i64 x.1) = false := by
    cases hh : Maps.has D (.int .i64 x.1)
    · rfl
    · obtain ⟨y, hy, e⟩ := (h5 x.1).2 hh
      exact absurd e (hn y hy)
  have hne : ∀ k : Int, k ≠ x.1 → (Lit.int .i64 k) ≠ (Lit.int .i64 x.1) := fun k hk e => hk (by injection e)
  refine ⟨w', hr, ⟨by simp; omega, List.pairwise_cons.2 ⟨fun y hy => (hn y hy).symm, h1⟩, fun y hy => ?_, D.put (.int .i64 x.1) (.lit (.int .u64 (x.2 : Int))), h7, ?_, fun k => ?_, fun y hy => ?_⟩, qturned_ke h8⟩
  · rcases List.mem_cons.1 hy with rfl | hy
    · exact hk
    · exact h2 y hy
  · rw [Maps.size_put (h3.tidy qilaw) _, hf, h4]
    simp
  · by_cases e : k = x.1
    · subst e
      rw [has_put_same h3.isMap (by trivial)]
      simp
    · rw [has_put_other (hne k e), ← h5 k]
      simp only [List.mem_cons]
      constructor
      · rintro ⟨y, rfl | hy, e1⟩
        · exact absurd e1.symm e
        · exact ⟨y, hy, e1⟩
      · rintro ⟨y, hy, e1⟩
        exact ⟨y, .inr hy, e1⟩
  · rcases List.mem_cons.1 hy with rfl | hy
    · exact atKey_put_same h3.isMap (by trivial) _ _
    · rw [atKey_put_other (hne _ (hn y hy))]
      exact h6 y hy
theorem Mi.drop {u : World} {mb : Nat} {l : List (Int × Nat)} {x : Int × Nat} (h : Mi u mb (x :: l)) (ty : TypeId) :
    ∃ w', (Builtin.delete_ #[49, 3] ty #[.map (some mb), .int .i64 x.1]).run Try.prog u = .ok (.tuple #[]) w' ∧ Mi w' mb l ∧ Ke [mb] u w' := by
  obtain ⟨h0, h1, h2, D, h3, h4, h5, h6⟩ := h
  obtain ⟨w', hr, h7, h8⟩ := h3.drop qilaw Try.underlying49 (qikey (h2 x (List.mem_cons_self ..))) ty
  have hhas := (h5 x.1).1 ⟨x, List.mem_cons_self .., rfl⟩
  obtain ⟨hn, h1'⟩ := List.pairwise_cons.1 h1
  have hne : ∀ k : Int, k ≠ x.1 → (Lit.int .i64 k) ≠ (Lit.int .i64 x.1) := fun k hk e => hk (by injection e)
  have hs : Maps.size (D.del (.int .i64 x.1)) = l.length := by
    have := Maps.size_del (k := .int .i64 x.1) (h3.tidy qilaw)
    rw [hhas, h4] at this
    simpa using this
  have h7' : w'.ownsMap Try.prog 3 qRP mb l.length (D.del (.int .i64 x.1)) := by
    obtain ⟨es, clock, hb, F, hsz, e⟩ := h7
    refine ⟨es, clock, hb, F, ?_, e⟩
    rw [e] at hs
    simp only [Maps.size, length_sorted, List.length_map, Array.length_toList] at hs
    omega
  refine ⟨w', hr, ⟨by simp at h0; omega, h1', fun y hy => h2 y (List.mem_cons_of_mem _ hy), D.del (.int .i64 x.1), h7', hs, fun k => ?_, fun y hy => ?_⟩, qturned_ke h8⟩
  · by_cases e : k = x.1
    · subst e
      rw [has_del_same]
      simp only [Bool.false_eq_true, iff_false]
      rintro ⟨y, hy, e⟩
      exact hn y hy e.symm
    · rw [has_del_other (hne k e), ← h5 k]
      constructor
      · rintro ⟨y, hy, e1⟩; exact ⟨y, List.mem_cons_of_mem _ hy, e1⟩
      · rintro ⟨y, hy, e1⟩
        rcases List.mem_cons.1 hy with rfl | hy
        · exact absurd e1.symm e
        · exact ⟨y, hy, e1⟩
  · rw [atKey_del_other (hne _ (fun e => hn y hy e.symm))]
    exact h6 y (List.mem_cons_of_mem _ hy)
/-- A new one. -/
theorem Mi.made (w : World) : Mi (w.alloc (.map #[] 0)) w.heap.size [] :=
  ⟨by simp, .nil, (fun _ h => by cases h), ⟨DataW.map [], World.ownsMap_made _ _ _ _, rfl, (fun k => by simp [Maps.has]), (fun x h => by cases h)⟩⟩

/-- A range over the map of names under way: left: which names are still to come. -/
def Rq (w : World) (b r : Nat) (l : List (ByteArray × Nat)) (left : ByteArray → Bool) (cnt : Nat) : Prop :=
  ∃ (D : DataW Unit) (n : Nat) (lf : Lit → Bool), w.ranges Try.prog 9 qRP b r n D lf cnt ∧ (∀ s : ByteArray, lf (.string s.data.toList) = left s) ∧ (∀ s, left s = true → ∃ x ∈ l, x.1 = s) ∧ ∀ x ∈ l, D.atKey (.string x.1.data.toList) .nil = .lit (.int .u64 (x.2 : Int))
theorem nmQ_key (z s : ByteArray) : (Lit.string z.data.toList).sameKey (.string s.data.toList) = nmQ z s := by
  unfold nmQ
  rw [ByteArray.toList_eq, ByteArray.toList_eq]
  rfl
theorem qkey_inv {key : Value} {kl : Lit} (h : keyOf Try.prog 9 key = some kl) : ∃ s : ByteArray, key = .string s ∧ kl = .string s.data.toList := by
  cases key <;> simp [keyOf, Try.underlying9, mapKey] at h
  exact ⟨_, rfl, h.2.symm⟩
theorem Mq.range {u : World} {mb : Nat} {l : List (ByteArray × Nat)} (h : Mq u mb l) :
    ∃ w', (Instr.range 48 (.map (some mb))).run Try.prog u = .ok (.pointer (some ⟨u.heap.size, 0, none⟩)) w' ∧ Rq w' mb u.heap.size l (fun s => l.any fun x => nmQ x.1 s) l.length ∧ Ke [] u w' := by
  obtain ⟨h0, h1, h2, D, h3, h5, h6⟩ := h
  obtain ⟨w', hr, q1, q2, q3⟩ := h3.range qlaw Try.underlying48
  rw [mq_size h3 h1 h5] at q1
  refine ⟨w', hr, ⟨D, _, _, q1, fun s => ?_, fun s hs => ?_, h6⟩, ⟨q2.os, q2.tape, q2.output, q2.size, fun k hk _ => q2.block k hk (by simp)⟩⟩
  · rw [Bool.eq_iff_iff, ← h5 s, List.any_eq_true]
    constructor
    · rintro ⟨x, hx, e⟩; exact ⟨x, hx, (nmQ_iff _ _).2 e⟩
    · rintro ⟨x, hx, e⟩; exact ⟨x, hx, (nmQ_iff _ _).1 e⟩
  · obtain ⟨x, hx, e⟩ := List.any_eq_true.1 hs
    exact ⟨x, hx, (nmQ_iff _ _).1 e⟩
theorem Rq.next {w : World} {b r cnt : Nat} {l : List (ByteArray × Nat)} {left : ByteArray → Bool} (h : Rq w b r l left cnt) (ty : TypeId) :
    (cnt = 0 ∧ (∀ s, left s = false) ∧ (Instr.next (.pointer (some ⟨r, 0, none⟩)) false ty).run Try.prog w = .ok (.tuple #[.bool false]) w) ∨
    ∃ x w' cnt', x ∈ l ∧ left x.1 = true ∧ (Instr.next (.pointer (some ⟨r, 0, none⟩)) false ty).run Try.prog w = .ok (.tuple #[.bool true, .string x.1, qptr x.2]) w' ∧ Rq w' b r l (fun z => left z && !nmQ z x.1) cnt' ∧ cnt' < cnt ∧ Ke [r] w w' ∧ w'.heap.size = w.heap.size ∧ (Instr.entry (.pointer (some ⟨r, 0, none⟩))).run Try.prog w' = .ok (.tuple #[.string x.1, qptr x.2]) w' := by
  obtain ⟨D, n, lf, h1, h2, h3, h4⟩ := h
  rcases h1.next qlaw ty with ⟨k0, k1, k2⟩ | ⟨key, v, kl, y, w', cnt', k0, k1, k2, k3, k4, k5, k6, k7, k8, k9⟩
  · exact .inl ⟨k0, fun s => (h2 s).symm.trans (k1 _), k2⟩
  · right
    obtain ⟨s, rfl, rfl⟩ := qkey_inv k0
    rw [h2] at k1
    obtain ⟨x, hx, rfl⟩ := h3 s k1
    have e := k3 .nil
    rw [h4 x hx] at e
    obtain ⟨y1, y2⟩ := y
    dsimp only at e
    subst e
    obtain rfl := qRP_inv k2
    refine ⟨x, w', cnt', hx, k1, k4, ⟨D, n, _, k5, fun z => ?_, fun z hz => h3 z (by simp at hz; exact hz.1), h4⟩, k6, ⟨k7.os, k7.tape, k7.output, k7.size, fun k hk hn => k7.block k hk (fun e => hn (by injection e with e; simp [e]))⟩, k8, k9⟩
    rw [h2 z, nmQ_key]
def inQ (l : List (ByteArray × Nat)) (s : ByteArray) (d : Nat) : Prop := (s, d) ∈ l
theorem wpList_next_q {w : World} {ops : Array Oper} {rest : List Oper} {o : Oper} {a : Act} {Q : Exit → Act → World → Prop} {b r cnt : Nat} {l : List (ByteArray × Nat)} {left : ByteArray → Bool} (h : Rq w b r l left cnt) (hg : o.guard = none) (it : Operand) (hop : o.op = Op.next it false) (hit : a.eval it = .pointer (some ⟨r, 0, none⟩))
    (hDone : Hid (∀ s, left s = false) → wpList Try.prog ops Q rest (a.put o.dst (.tuple #[.bool false])) w)
    (hMore : ∀ (s : ByteArray) (d : Nat) (w' : World) (cnt' : Nat), Hid ((inQ l s d ∧ left s = true) ∧ Rq w' b r l (fun z => left z && !nmQ z s) cnt' ∧ cnt' < cnt ∧ Ke [r] w w') → (Instr.entry (.pointer (some ⟨r, 0, none⟩))).run Try.prog w' = .ok (.tuple #[.string s, qptr d]) w' → wpList Try.prog ops Q rest (a.put o.dst (.tuple #[.bool true, .string s, qptr d])) w') :
    wpList Try.prog ops Q (o :: rest) a w := by
  refine wpList_plain hg fun K' hK' => ?_
  unfold Oper.wp
  rcases h.next o.type with ⟨h0, hl, hrun⟩ | ⟨x, w', cnt', k1, k2, k3, k4, k5, k6, k7, k8⟩
  · simp [execOp, hop, hit, hrun, Result.andThen]
    exact hK' _ _ (hDone (Lib.hid hl))
  · simp [execOp, hop, hit, k3, Result.andThen]
    exact hK' _ _ (hMore x.1 x.2 w' cnt' (Lib.hid ⟨⟨k1, k2⟩, k4, k5, k6⟩) k8)
theorem Rq.left_eq {w : World} {b r cnt : Nat} {l : List (ByteArray × Nat)} {left : ByteArray → Bool} (h : Rq w b r l left cnt) : w.rangeLeft b r = cnt := by
  obtain ⟨D, n, lf, h1, _⟩ := h
  exact h1.left_eq
end Go.Proofs.Ytikkiifcnjiegaa

/- The queue: what QueueApart keeps. (Begun in round 13, ahead of the landing: nothing of the program is named here.) -/
namespace Go.Proofs.Ytikkiifcnjiegaa
set_option linter.unusedVariables false
set_option maxRecDepth 100000
set_option linter.unusedSimpArgs false

/-- q: the queue of all; r: the queue of the one name's calls alone. -/
structure Qa (q r : List Qn) (s : ByteArray) (i : Nat) : Prop where
  gq : Qg q
  gr : Qg r
  li : liQ q s = liQ r s
  ro : ∀ x ∈ r, x.nm = s
  ev : ∀ x ∈ q, (x.id % 2 = 0 ↔ x.nm = s)
  er : ∀ x ∈ r, x.id % 2 = 0
  nq : q.length ≤ i
  nr : r.length ≤ i
theorem qa_nil (s : ByteArray) : Qa [] [] s 0 := ⟨qg_nil, qg_nil, rfl, (fun x hx => by cases hx), (fun x hx => by cases hx), (fun x hx => by cases hx), Nat.le_refl _, Nat.le_refl _⟩
theorem mem_li {q : List Qn} {x : Qn} (h : x ∈ q) : x.id ∈ liQ q x.nm := List.mem_map.2 ⟨x, List.mem_filter.2 ⟨h, nmQ_same _⟩, rfl⟩
theorem wh_isSome {q : List Qn} {id : Int} : (whQ q id).isSome = true ↔ ∃ x ∈ q, x.id = id := by
  constructor
  · intro h
    cases hw : whQ q id with
    | none => rw [hw] at h; cases h
    | some x => exact ⟨x, wh_some hw⟩
  · rintro ⟨x, hx, e⟩
    cases hw : whQ q id with
    | some y => rfl
    | none => exact absurd (List.mem_map.2 ⟨x, hx, e⟩) (wh_none hw)
section
variable {q r : List Qn} {s : ByteArray} {i : Nat}
theorem Qa.wh (h : Qa q r s i) {id : Int} (he : id % 2 = 0) : (whQ q id).isSome = (whQ r id).isSome := by
  rw [Bool.eq_iff_iff, wh_isSome, wh_isSome]
  constructor
  · rintro ⟨x, hx, rfl⟩
    have hn := (h.ev x hx).1 he
    have hm := mem_li hx
    rw [hn, h.li] at hm
    obtain ⟨y, hy, e, _⟩ := li_mem hm
    exact ⟨y, hy, e⟩
  · rintro ⟨x, hx, rfl⟩
    have hm := mem_li hx
    rw [h.ro x hx, ← h.li] at hm
    obtain ⟨y, hy, e, _⟩ := li_mem hm
    exact ⟨y, hy, e⟩
theorem mem_out {q : List Qn} {id : Int} {x : Qn} (h : x ∈ outQ q id) : x ∈ q := (List.mem_filter.1 h).1
theorem out_few (q : List Qn) (id : Int) : (outQ q id).length ≤ q.length := List.length_filter_le _ _
theorem Qa.both (h : Qa q r s i) (id : Int) : Qa (outQ q id) (outQ r id) s (i + 1) :=
  ⟨qg_out h.gq id, qg_out h.gr id, by rw [li_out, li_out, h.li], fun x hx => h.ro x (mem_out hx), fun x hx => h.ev x (mem_out hx), fun x hx => h.er x (mem_out hx), by have := out_few q id; have := h.nq; omega, by have := out_few r id; have := h.nr; omega⟩
theorem Qa.left (h : Qa q r s i) {id : Int} (hl : liQ (outQ q id) s = liQ q s) : Qa (outQ q id) r s (i + 1) :=
  ⟨qg_out h.gq id, h.gr, by rw [hl, h.li], h.ro, fun x hx => h.ev x (mem_out hx), h.er, by have := out_few q id; have := h.nq; omega, by have := h.nr; omega⟩
theorem Qa.more (h : Qa q r s i) : Qa q r s (i + 1) := ⟨h.gq, h.gr, h.li, h.ro, h.ev, h.er, by have := h.nq; omega, by have := h.nr; omega⟩
/-- Take of the name itself: both tell the same. -/
theorem Qa.takeOwn (h : Qa q r s i) : (tkQ q s).1 = (tkQ r s).1 ∧ (tkQ q s).2.1 = (tkQ r s).2.1 ∧ Qa (tkQ q s).2.2 (tkQ r s).2.2 s (i + 1) := by
  unfold tkQ
  rw [h.li]
  cases hl : liQ r s with
  | nil => exact ⟨rfl, rfl, h.more⟩
  | cons a l => exact ⟨rfl, rfl, h.both a⟩
theorem Qa.takeOther (h : Qa q r s i) {t : ByteArray} (hn : t ≠ s) : Qa (tkQ q t).2.2 r s (i + 1) := by
  unfold tkQ
  cases hl : liQ q t with
  | nil => exact h.more
  | cons a l => exact h.left (li_far h.gq.nd (s := t) (by rw [hl]; exact List.mem_cons_self ..) hn)
theorem Qa.dropOwn (h : Qa q r s i) {id : Int} (he : id % 2 = 0) : (drQ q id).1 = (drQ r id).1 ∧ Qa (drQ q id).2 (drQ r id).2 s (i + 1) := ⟨h.wh he, h.both id⟩
theorem Qa.dropOther (h : Qa q r s i) {id : Int} (he : ¬ id % 2 = 0) : Qa (drQ q id).2 r s (i + 1) := h.left (by
  rw [li_out]
  refine List.filter_eq_self.2 fun a ha => ?_
  obtain ⟨x, hx, e1, e2⟩ := li_mem ha
  rw [bne_iff_ne]
  rintro rfl
  exact he (by rw [← e1]; exact (h.ev x hx).2 e2))
theorem pu_few (q : List Qn) (s : ByteArray) (id : Int) : (puQ q s id).2.length ≤ q.length + 1 := by
  unfold puQ
  split
  · exact Nat.le_succ _
  · split
    · exact Nat.le_succ _
    · simp
theorem pu_mem {q : List Qn} {s : ByteArray} {id : Int} {x : Qn} (h : x ∈ (puQ q s id).2) : x ∈ q ∨ x = ⟨s, id⟩ := by
  unfold puQ at h
  split at h
  · exact .inl h
  · split at h
    · exact .inl h
    · rcases List.mem_append.1 h with h | h
      · exact .inl h
      · exact .inr (by simpa using h)
theorem Qa.putOwn (h : Qa q r s i) (hi : i < 64) {id : Int} (he : id % 2 = 0) : (puQ q s id).1 = (puQ r s id).1 ∧ Qa (puQ q s id).2 (puQ r s id).2 s (i + 1) := by
  have hw := h.wh he
  have hq : decide (64 ≤ q.length) = false := decide_eq_false (by have := h.nq; omega)
  have hr : decide (64 ≤ r.length) = false := decide_eq_false (by have := h.nr; omega)
  have e : (puQ q s id).1 = (puQ r s id).1 ∧ liQ (puQ q s id).2 s = liQ (puQ r s id).2 s := by
    unfold puQ
    rw [hw, h.li, hq, hr]
    split
    · exact ⟨rfl, h.li⟩
    · split
      · exact ⟨rfl, h.li⟩
      · exact ⟨rfl, by rw [li_app, li_app, h.li]⟩
  refine ⟨e.1, qg_put h.gq s id, qg_put h.gr s id, e.2, fun x hx => ?_, fun x hx => ?_, fun x hx => ?_, by have := pu_few q s id; have := h.nq; omega, by have := pu_few r s id; have := h.nr; omega⟩
  · rcases pu_mem hx with hx | rfl
    · exact h.ro x hx
    · rfl
  · rcases pu_mem hx with hx | rfl
    · exact h.ev x hx
    · exact ⟨fun _ => rfl, fun _ => he⟩
  · rcases pu_mem hx with hx | rfl
    · exact h.er x hx
    · exact he
theorem Qa.putOther (h : Qa q r s i) {t : ByteArray} (hn : t ≠ s) {id : Int} (he : ¬ id % 2 = 0) : Qa (puQ q t id).2 r s (i + 1) := by
  have e : liQ (puQ q t id).2 s = liQ q s := by
    unfold puQ
    split
    · rfl
    · split
      · rfl
      · rw [li_app, if_neg (fun hh => hn ((nmQ_iff _ _).1 hh))]
  refine ⟨qg_put h.gq t id, h.gr, by rw [e, h.li], h.ro, fun x hx => ?_, h.er, by have := pu_few q t id; have := h.nq; omega, by have := h.nr; omega⟩
  rcases pu_mem hx with hx | rfl
  · exact h.ev x hx
  · exact ⟨fun k => absurd k he, fun k => absurd k hn⟩
end
end Go.Proofs.Ytikkiifcnjiegaa

/- The queue: what QueueOrder, QueueBounds, QueueDrain and QueueWhere ask. (Begun in round 13, ahead of the landing: nothing of the program is named here.) -/
namespace Go.Proofs.Ytikkiifcnjiegaa
set_option linter.unusedVariables false
set_option maxRecDepth 100000
set_option linter.unusedSimpArgs false

theorem tk_row {q : List Qn} (h : Qg q) (s : ByteArray) : liQ (tkQ q s).2.2 s = (liQ q s).tail := by
  unfold tkQ
  cases hl : liQ q s with
  | nil => exact hl
  | cons a l => exact li_tail h.nd hl
theorem tk_far {q : List Qn} (h : Qg q) {s t : ByteArray} (hn : t ≠ s) : liQ (tkQ q t).2.2 s = liQ q s := by
  unfold tkQ
  cases hl : liQ q t with
  | nil => rfl
  | cons a l => exact li_far h.nd (s := t) (by rw [hl]; exact List.mem_cons_self ..) hn
theorem tk_is (q : List Qn) (s : ByteArray) : (tkQ q s).2.1 = !(liQ q s).isEmpty := by
  unfold tkQ
  cases liQ q s <;> rfl
theorem tk_first {q : List Qn} {s : ByteArray} {a : Int} {r : List Int} (h : liQ q s = a :: r) : tkQ q s = (a, true, outQ q a) := by
  unfold tkQ; rw [h]
theorem tk_no {q : List Qn} {s : ByteArray} (h : liQ q s = []) : tkQ q s = (0, false, q) := by
  unfold tkQ; rw [h]
theorem dr_far {q : List Qn} (h : Qg q) {s : ByteArray} {id : Int} (hx : ∀ x, whQ q id = some x → x.nm ≠ s) : liQ (outQ q id) s = liQ q s := by
  rw [li_out]
  refine List.filter_eq_self.2 fun a ha => ?_
  obtain ⟨x, hm, e1, e2⟩ := li_mem ha
  rw [bne_iff_ne]
  rintro rfl
  have := wh_of h.nd hm
  rw [e1] at this
  exact hx x this e2
theorem pu_cases (q : List Qn) (s : ByteArray) (id : Int) :
    ((whQ q id).isSome = true ∧ puQ q s id = (4, q)) ∨
    ((whQ q id).isSome = false ∧ (8 ≤ (liQ q s).length ∨ 64 ≤ q.length) ∧ puQ q s id = (2, q)) ∨
    ((whQ q id).isSome = false ∧ (liQ q s).length < 8 ∧ q.length < 64 ∧ puQ q s id = (0, q ++ [⟨s, id⟩])) := by
  unfold puQ
  cases hw : (whQ q id).isSome with
  | true => exact .inl ⟨rfl, rfl⟩
  | false =>
    by_cases h8 : 8 ≤ (liQ q s).length
    · exact .inr (.inl ⟨rfl, .inl h8, by simp [h8]⟩)
    · by_cases h64 : 64 ≤ q.length
      · exact .inr (.inl ⟨rfl, .inr h64, by simp [h64]⟩)
      · exact .inr (.inr ⟨rfl, by omega, by omega, by simp [h8, h64]⟩)
theorem pu_row {q : List Qn} {s t : ByteArray} {id : Int} (h : puQ q s id = (0, q ++ [⟨s, id⟩])) : liQ (puQ q s id).2 t = if nmQ s t = true then liQ q t ++ [id] else liQ q t := by
  rw [h]; exact li_app q s t id
/-- One more that is taken. -/
theorem tk_step {q : List Qn} (h : Qg q) {s : ByteArray} {a : Int} {r : List Int} (e : liQ q s = a :: r) : Qg (outQ q a) ∧ liQ (outQ q a) s = r ∧ (outQ q a).length + 1 = q.length := by
  refine ⟨qg_out h a, li_tail h.nd e, ?_⟩
  obtain ⟨x, hx, e1, _⟩ := li_mem (q := q) (s := s) (id := a) (by rw [e]; exact List.mem_cons_self ..)
  rw [← e1]
  exact out_len h.nd hx
/-- QueueWhere's two rows: after the numbers from k on have been looked at. -/
def rmQ (q : List Qn) (id : Int) (k : Nat) : List Qn := q.take k ++ (q.drop k).filter fun x => x.id != id
theorem rm_0 (q : List Qn) (id : Int) : rmQ q id 0 = outQ q id := rfl
theorem rm_all (q : List Qn) (id : Int) {k : Nat} (h : q.length ≤ k) : rmQ q id k = q := by
  unfold rmQ; rw [List.take_of_length_le h, List.drop_of_length_le h]; simp
theorem rm_at {q : List Qn} {id : Int} {k : Nat} {x : Qn} (h : q[k]? = some x) : (rmQ q id (k + 1))[k]? = some x := by
  obtain ⟨hk, e⟩ := List.getElem?_eq_some_iff.1 h
  unfold rmQ
  rw [List.getElem?_append_left (by rw [List.length_take]; omega), List.getElem?_take, if_pos (by omega), h]
theorem rm_step {q : List Qn} {id : Int} {k : Nat} {x : Qn} (h : q[k]? = some x) : rmQ q id k = if x.id = id then (rmQ q id (k + 1)).take k ++ (rmQ q id (k + 1)).drop (k + 1) else rmQ q id (k + 1) := by
  obtain ⟨hk, e⟩ := List.getElem?_eq_some_iff.1 h
  have hd : q.drop k = x :: q.drop (k + 1) := by rw [List.drop_eq_getElem_cons hk, e]
  have ht : q.take (k + 1) = q.take k ++ [x] := by rw [List.take_add_one, h]; rfl
  have hl : (q.take k).length = k := by rw [List.length_take]; omega
  unfold rmQ
  rw [hd, List.filter_cons, ht]
  by_cases hx : x.id = id
  · rw [if_neg (by simp [hx]), if_pos hx]
    generalize q.take k = a at hl ⊢
    generalize (q.drop (k + 1)).filter _ = r
    subst hl
    simp
  · rw [if_pos (by simp [hx]), if_neg hx, List.append_assoc]
    rfl
end Go.Proofs.Ytikkiifcnjiegaa

/- Footprints: lists of blocks that may only grow by new ones. Nothing of the program is named here. -/
namespace Go.Proofs.Ytikkiifcnjiegaa
set_option linter.unusedVariables false
set_option maxRecDepth 100000
set_option linter.unusedSimpArgs false
open Go.RowKit

/-- From u to u' only the blocks G have turned; G' are these, and new ones. -/
structure Sp (u u' : World) (G G' : List Nat) : Prop where
  k : Ke G u u'
  g : ∀ y ∈ G', y ∈ G ∨ u.heap.size ≤ y
theorem Sp.refl (u : World) (G : List Nat) : Sp u u G G := ⟨Ke.refl _ _, fun _ h => .inl h⟩
theorem Sp.of {u u' : World} {G : List Nat} (h : Ke G u u') : Sp u u' G G := ⟨h, fun _ h => .inl h⟩
theorem Sp.trans {u v w : World} {G G' G'' : List Nat} (h : Sp u v G G') (k : Sp v w G' G'') : Sp u w G G'' :=
  ⟨⟨k.k.os.trans h.k.os, k.k.tape.trans h.k.tape, k.k.output.trans h.k.output, Nat.le_trans h.k.size k.k.size, fun i hi hG => (k.k.block i (Nat.lt_of_lt_of_le hi h.k.size) (fun hx => by
      rcases h.g i hx with e | e
      · exact hG e
      · omega)).trans (h.k.block i hi hG)⟩,
    fun y hy => by
      rcases k.g y hy with e | e
      · exact h.g y e
      · exact .inr (Nat.le_trans h.k.size e)⟩
theorem Ke.sp {u u' : World} {G : List Nat} (k : Ke [] u u') : Sp u u' G G := Sp.of k.nil
/-- At q lie those cells, away from the blocks of G. -/
structure Bz (u : World) (G : List Nat) (q : Nat) (t : TypeId) (cs : Array Value) : Prop where
  b : Bk u q t cs
  n : q ∉ G
theorem Bz.step {u u' : World} {G G' : List Nat} {q : Nat} {t : TypeId} {cs : Array Value} (h : Bz u G q t cs) (s : Sp u u' G G') : Bz u' G' q t cs :=
  ⟨h.b.ke s.k h.n, fun hm => by
    rcases s.g q hm with e | e
    · exact h.n e
    · have := h.b.lt; omega⟩
theorem Bz.alloc {u : World} {G : List Nat} {q : Nat} {t : TypeId} {cs : Array Value} (h : Bz u G q t cs) (o : Obj) : Bz (u.alloc o) G q t cs := ⟨h.b.alloc o, h.n⟩
theorem Bz.on {u u' : World} {G : List Nat} {q : Nat} {t : TypeId} {cs : Array Value} (h : Bz u G q t cs) (hb : Below u.heap.size u u') : Bz u' G q t cs := ⟨h.b.below hb h.b.lt, h.n⟩
theorem Bz.new {u : World} {G : List Nat} (hG : ∀ y ∈ G, y < u.heap.size) (t : TypeId) (cs : Array Value) : Bz (u.alloc (.cells cs t)) G u.heap.size t cs := ⟨Bk.new u t cs, fun hm => by have := hG _ hm; omega⟩
theorem below_dn {w : World} (n : Nat) : Below w.heap.size w (w.drewN n) := ⟨rfl, rfl, rfl, Nat.le_refl _, fun _ _ => rfl⟩
end Go.Proofs.Ytikkiifcnjiegaa
