/- The document's own pump: its memory; New, End, Over, Moved, Waits, Room, Break: their contracts. (Begun in round 16, ahead of the landing.) -/
import Derived.Test.YtpomeimjgbblmaaPuF
import Derived.Test.YtpomeimjgbblmaaRgRefF
namespace Go.Proofs.Ytpomeimjgbblmaa
set_option linter.unusedVariables false
set_option maxRecDepth 100000
set_option linter.unusedSimpArgs false
open Go.RowKit

/-- Bytes lie in no block whose cells are none. -/
theorem Rf.far {u : World} {L : List Nat} {A : Option Addr} {l : List UInt8} {g : Nat} {t : TypeId} {cs : Array Value} (h : Rf u L A l) (hb : Bk u g t cs) (hc : ∀ (j : Nat) (v : Value), cs[j]? = some v → ∀ x : Int, v ≠ Value.int .u8 x) : Rf u (g :: L) A l := by
  by_cases h0 : l = []
  · exact .inl h0
  · rcases h with h1 | ⟨b, o, e, h1, h2, h3⟩
    · exact absurd h1 h0
    · refine .inr ⟨b, o, e, fun hm => ?_, h2, h3⟩
      rcases List.mem_cons.1 hm with rfl | hm
      · have h4 := h3 0 (List.length_pos_iff.2 h0)
        rw [hb.cell] at h4
        exact hc _ _ h4 _ rfl
      · exact h1 hm
theorem ref_no8 {A : Option Addr} {k c m : Nat} : ∀ (j : Nat) (v : Value), (refcells A k c m)[j]? = some v → ∀ x : Int, v ≠ Value.int .u8 x := by
  intro j v hv x e
  subst e
  match j with
  | 0 => simp [refcells] at hv
  | 1 => simp [refcells] at hv
  | j + 2 => simp [refcells] at hv
/-- The ring at s stays while another ring's block turns. -/
theorem Rs.off {u u' : World} {s m : Nat} {q : List UInt8} {A : Option Addr} {c : Nat} {g k2 c2 m2 : Nat} {A2 : Option Addr} {t : TypeId} (h : Rs u s m q A c) (hb : Bk u g t (refcells A2 k2 c2 m2)) (hne : s ≠ g) (k : Ke [g] u u') : Rs u' s m q A c :=
  ⟨h.bk.ke k (by simpa using hne), ((h.rd.far hb ref_no8).ke k (by simp)).less (fun x hx => List.mem_cons_of_mem _ hx), h.cap, h.max, h.nil_, h.fit, h.most⟩
abbrev ducells (p : Pu) (s0 s1 : Nat) : Array Value := #[.pointer (some ⟨s0, 0, none⟩), .bool p.a.en, .bool p.a.to, .int .i64 p.a.mv, .pointer (some ⟨s1, 0, none⟩), .bool p.b.en, .bool p.b.to, .int .i64 p.b.mv, .bool p.br]
theorem Rs.keB {u u' : World} {s m : Nat} {q : List UInt8} {A : Option Addr} {c : Nat} {L : List Nat} (h : Rs u s m q A c) (k : Ke L u u') (hs : s ∉ L) (hA : ∀ a, A = some a → a.block ∉ L) : Rs u' s m q A c := by
  refine ⟨h.bk.ke k hs, ?_, h.cap, h.max, h.nil_, h.fit, h.most⟩
  rcases h.rd with h0 | ⟨b, o, e, h1, h2, h3⟩
  · exact .inl h0
  · exact .inr ⟨b, o, e, h1, Nat.lt_of_lt_of_le h2 k.size, fun i hi => (World.cell?_of_block (w := u) (a := ⟨b, o + i, none⟩) (k.block b h2 (hA _ e))).trans (h3 i hi)⟩
def blkA (A : Option Addr) : List Nat := A.toList.map (·.block)
theorem mem_blkA {A : Option Addr} {y : Nat} : y ∈ blkA A ↔ ∃ a, A = some a ∧ a.block = y := by
  unfold blkA
  cases A <;> simp [eq_comm]
/-- At rb lies the document's pump, in the blocks H. -/
structure Du (W u : World) (H : List Nat) (rb m : Nat) (p : Pu) : Prop where
  ex : ∃ s0 s1 A0 c0 A1 c1, Bk u rb 57 (ducells p s0 s1) ∧ Rs u s0 m p.a.q A0 c0 ∧ Rs u s1 m p.b.q A1 c1 ∧ rb < s0 ∧ s0 < s1 ∧ ((rb ∈ H ∧ s0 ∈ H ∧ s1 ∈ H) ∧ (∀ a, A0 = some a → a.block ∈ H) ∧ ∀ a, A1 = some a → a.block ∈ H)
  l : Below W.heap.size W u
  lo : ∀ y ∈ H, W.heap.size ≤ y
  hi : ∀ y ∈ H, y < u.heap.size
end Go.Proofs.Ytpomeimjgbblmaa
