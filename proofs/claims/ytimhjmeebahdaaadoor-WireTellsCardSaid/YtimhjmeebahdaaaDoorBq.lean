/- Several messages lie at their blocks, one made behind the other. -/
import Derived.Test.YtimhjmeebahdaaaDoorWHead
import Derived.Test.YtimhjmeebahdaaaDoorWEq
namespace Go.Proofs.YtimhjmeebahdaaaDoor
set_option linter.unusedVariables false
set_option linter.unusedSimpArgs false
open Go.RowKit

structure Bq (W : World) (L : List (Nat × Mg)) (u : World) : Prop where
  row : ∀ p ∈ L, Bk u p.1 23 p.2.cells
  ord : L.Pairwise fun p q => q.1 < p.1
  low : ∀ p ∈ L, W.heap.size ≤ p.1
  glob : Gw u
  b : Below W.heap.size W u
theorem Bq.on {W u u' : World} {L : List (Nat × Mg)} (H : Bq W L u) (hb : Below u.heap.size u u') : Bq W L u' :=
  ⟨fun p hp => (H.row p hp).below hb (H.row p hp).lt, H.ord, H.low, H.glob.below hb H.glob.size, H.b.trans (hb.mono H.b.size)⟩
theorem Bq.draw {W u : World} {L : List (Nat × Mg)} (H : Bq W L u) : Bq W L u.drew := ⟨H.row, H.ord, H.low, ⟨H.glob.size, H.glob.part⟩, H.b.drew⟩
theorem Bq.new {W u : World} {L : List (Nat × Mg)} (x : Mg) (H : Bq W L u) : Bq W ((u.heap.size, x) :: L) (u.alloc (.cells x.cells 23)) := by
  have H' := H.on ((Below.refl u.heap.size u).alloc (Nat.le_refl _) (.cells x.cells 23))
  refine ⟨?_, List.pairwise_cons.2 ⟨fun p hp => (H.row p hp).lt, H.ord⟩, ?_, H'.glob, H'.b⟩
  · intro p hp
    rcases List.mem_cons.1 hp with rfl | hp
    · exact Bk.new _ _ _
    · exact H'.row p hp
  · intro p hp
    rcases List.mem_cons.1 hp with rfl | hp
    · exact H.b.size
    · exact H.low p hp
theorem Bq.set {W u : World} {L : List (Nat × Mg)} {g : Nat} {x y : Mg} (H : Bq W ((g, x) :: L) u) (i : Nat) (v : Value) (hy : x.cells.setIfInBounds i v = y.cells) : Bq W ((g, y) :: L) (u.setCell ⟨g, i, none⟩ v) := by
  have hg : W.heap.size ≤ g := H.low (g, x) (List.mem_cons_self ..)
  have hlt : 0 < W.heap.size ∨ W.heap.size = 0 := by omega
  have ho := List.pairwise_cons.1 H.ord
  have hbs : Below g u (u.setCell ⟨g, i, none⟩ v) := (Below.refl g u).setCell (p := ⟨g, i, none⟩) (Nat.le_refl g) v
  refine ⟨?_, List.pairwise_cons.2 ⟨ho.1, ho.2⟩, ?_, ?_, H.b.setCell (p := ⟨g, i, none⟩) hg _⟩
  · intro p hp
    rcases List.mem_cons.1 hp with rfl | hp
    · have := (H.row (g, x) (List.mem_cons_self ..)).set i v
      rwa [hy] at this
    · have hne := ho.1 p hp
      exact (H.row p (List.mem_cons_of_mem _ hp)).far (by show p.1 ≠ g; exact Nat.ne_of_lt hne) _
  · intro p hp
    rcases List.mem_cons.1 hp with rfl | hp
    · exact hg
    · exact H.low p (List.mem_cons_of_mem _ hp)
  · have h0 : u.heap.size ≠ 0 := Nat.ne_of_gt H.glob.size
    by_cases hg0 : g = 0
    · exfalso
      have h1 := (H.row (g, x) (List.mem_cons_self ..)).cell 1
      have h2 := H.glob.part 1 (by decide)
      rw [hg0, h2] at h1
      simp [Mg.cells] at h1
    · exact H.glob.below hbs (Nat.pos_of_ne_zero hg0)
theorem Bq.of {W u : World} {x : Mg} (H : MgAt W.heap.size W W.heap.size x u) : Bq W [(W.heap.size, x)] u :=
  ⟨fun p hp => by rcases List.mem_singleton.1 hp with rfl; exact H.row, List.pairwise_singleton _ _, fun p hp => by rcases List.mem_singleton.1 hp with rfl; exact Nat.le_refl _, H.glob, H.b⟩
theorem Bq.c {W u : World} {L : List (Nat × Mg)} (H : Bq W L u) (g : Nat) {k n m : Int} {a b : ByteArray} (hm : (g, (⟨k, a, b, n, m⟩ : Mg)) ∈ L) :
    u.cell? ⟨g, 0, none⟩ = some (.int .i64 k) ∧ u.cell? ⟨g, 1, none⟩ = some (.string a) ∧ u.cell? ⟨g, 2, none⟩ = some (.string b) ∧ u.cell? ⟨g, 3, none⟩ = some (.int .i64 n) ∧ u.cell? ⟨g, 4, none⟩ = some (.int .i64 m) :=
  bk_msg (H.row _ hm)
end Go.Proofs.YtimhjmeebahdaaaDoor
