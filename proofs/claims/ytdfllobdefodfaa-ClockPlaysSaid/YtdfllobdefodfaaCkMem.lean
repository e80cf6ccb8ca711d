/- A clock in memory: its own cells, its row of alarms, the alarms; how a method of the row is called by the heap. -/
import Derived.Test.YtdfllobdefodfaaCkMap
import Derived.Deep.Cut
namespace Go.Proofs.Ytdfllobdefodfaa
set_option linter.unusedVariables false
set_option linter.unusedSimpArgs false
open Go.RowKit

/-- The row at A, of capacity cap, holds the alarms l; its block is one of F. -/
def Rwp (u : World) (F : List Nat) (A : Option Addr) (cap : Nat) (l : List Al) : Prop :=
  (A = none ∧ l = [] ∧ cap = 0) ∨ ∃ g cur, A = some ⟨g, 0, none⟩ ∧ g ∈ F ∧ Bk u g 61 cur ∧ l.length ≤ cap ∧ cap ≤ maxLen ∧ cur.size = cap ∧ ∀ i, i < l.length → cur[i]? = some (ptr (nth l i).b)

/-- The clock's own cells. -/
abbrev ccells (now : Int) (mb : Nat) (A : Option Addr) (n cap : Nat) : Array Value := #[.int .i64 now, .map (some mb), .slice A n cap]
/-- An alarm's cells. -/
abbrev acells (x : Al) (i : Nat) : Array Value := #[.int .i64 x.id, .int .i64 x.t, .int .i64 (i : Int)]

/-- At c lies a clock: its time, its map's block, its row, of which each alarm knows its place. All of it (but the map) lies in the blocks F. -/
structure Hp (u : World) (F : List Nat) (c : Nat) (now : Int) (mb : Nat) (A : Option Addr) (cap : Nat) (l : List Al) : Prop where
  ck : Bk u c 60 (ccells now mb A l.length cap)
  row : Rwp u F A cap l
  als : ∀ i, i < l.length → Bk u (nth l i).b 65 (acells (nth l i) i)
  few : l.length ≤ 1025
  fc : c ∈ F
  fl : ∀ i, i < l.length → (nth l i).b ∈ F

theorem Bk.type {w : World} {g : Nat} {t t' : TypeId} {cs cs' : Array Value} (h : Bk w g t cs) (h' : Bk w g t' cs') : t = t' := by
  have := h.symm.trans h'
  injection this with e
  injection e with _ e2 _
theorem Bk.same {w : World} {g : Nat} {t t' : TypeId} {cs cs' : Array Value} (h : Bk w g t cs) (h' : Bk w g t' cs') : cs = cs' := by
  have := h.symm.trans h'
  injection this with e
  injection e with e1 _ _
/-- Blocks of two types are two. -/
theorem Bk.ne {w : World} {g g' : Nat} {t t' : TypeId} {cs cs' : Array Value} (h : Bk w g t cs) (h' : Bk w g' t' cs') (hn : t ≠ t') : g ≠ g' := fun e => hn (by subst e; exact h.type h')

variable {u : World} {F : List Nat} {c : Nat} {now : Int} {mb : Nat} {A : Option Addr} {cap : Nat} {l : List Al}

theorem Hp.ke {u' : World} {L : List Nat} (h : Hp u F c now mb A cap l) (k : Ke L u u') (hL : ∀ x ∈ L, x ∉ F) : Hp u' F c now mb A cap l := by
  have hF : ∀ x ∈ F, x ∉ L := fun x hx hl => hL x hl hx
  refine ⟨h.ck.ke k (hF _ h.fc), ?_, fun i hi => (h.als i hi).ke k (hF _ (h.fl i hi)), h.few, h.fc, h.fl⟩
  rcases h.row with h0 | ⟨g, cur, h1, h2, h3, r⟩
  · exact .inl h0
  · exact .inr ⟨g, cur, h1, h2, h3.ke k (hF _ h2), r⟩
theorem Hp.drew (h : Hp u F c now mb A cap l) : Hp u.drew F c now mb A cap l := h.ke (L := []) (Ke.refl _ _).drew (by simp)
theorem Hp.more {F' : List Nat} (h : Hp u F c now mb A cap l) (hF : ∀ x ∈ F, x ∈ F') : Hp u F' c now mb A cap l := by
  refine ⟨h.ck, ?_, h.als, h.few, hF _ h.fc, fun i hi => hF _ (h.fl i hi)⟩
  rcases h.row with h0 | ⟨g, cur, h1, h2, r⟩
  · exact .inl h0
  · exact .inr ⟨g, cur, h1, hF _ h2, r⟩
/-- Two places hold two alarms. -/
theorem Hp.two (h : Hp u F c now mb A cap l) {i j : Nat} (hi : i < l.length) (hj : j < l.length) (hn : i ≠ j) : (nth l i).b ≠ (nth l j).b := fun e => by
  have h1 := h.als i hi
  have h2 := h.als j hj
  rw [e] at h1
  have := h1.same h2
  have e2 := congrArg (fun cs => cs[2]?) this
  simp at e2
  exact hn (by omega)

theorem Hp.lt (h : Hp u F c now mb A cap l) : c < u.heap.size := h.ck.lt
/-- What an alarm's place says. -/
theorem Hp.at_ (h : Hp u F c now mb A cap l) {i : Nat} (hi : i < l.length) :
    ∃ g cur, A = some ⟨g, 0, none⟩ ∧ g ∈ F ∧ Bk u g 61 cur ∧ l.length ≤ cap ∧ cap ≤ maxLen ∧ cur.size = cap ∧ ∀ i, i < l.length → cur[i]? = some (ptr (nth l i).b) := by
  rcases h.row with ⟨_, h0, _⟩ | h1
  · rw [h0] at hi; simp at hi
  · exact h1
theorem Bk.cells3 {w : World} {b : Nat} {t : TypeId} {v0 v1 v2 : Value} (h : Bk w b t #[v0, v1, v2]) : w.cell? ⟨b, 0, none⟩ = some v0 ∧ w.cell? ⟨b, 1, none⟩ = some v1 ∧ w.cell? ⟨b, 2, none⟩ = some v2 :=
  ⟨by rw [h.cell]; rfl, by rw [h.cell]; rfl, by rw [h.cell]; rfl⟩

end Go.Proofs.Ytdfllobdefodfaa
