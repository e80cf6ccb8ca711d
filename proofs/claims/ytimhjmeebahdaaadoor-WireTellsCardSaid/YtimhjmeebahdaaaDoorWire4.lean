/- wire.into, and what it makes: their contracts. -/
import Derived.Test.YtimhjmeebahdaaaDoorWireM
import Derived.Test.YtimhjmeebahdaaaDoorRows
import Derived.Test.YtimhjmeebahdaaaDoorHmf
import Derived.Test.YtimhjmeebahdaaaDoorRead
import Derived.Test.YtimhjmeebahdaaaDoorGet
namespace Go.Proofs.YtimhjmeebahdaaaDoor
set_option linter.unusedVariables false
set_option linter.unusedSimpArgs false
open Go.RowKit

set_option maxHeartbeats 400000 in
theorem intoS_ok (g i : Nat) (w : World) :
    Calls Tryd.prog 30 #[.pointer (some ⟨g, i, none⟩), .func (.func 31) #[] #[]] w fun e w' => e = .returned (.func (.func 35) #[] #[.pointer (some ⟨w.heap.size + 1, 0, none⟩), .pointer (some ⟨w.heap.size, 0, none⟩)]) ∧
      w' = (w.alloc (.cells #[.pointer (some ⟨g, i, none⟩)] 57)).alloc (.cells #[.func (.func 31) #[] #[]] 47) := by
  have h := @hmf Tryd.prog
  go_enter Tryd.func30, Tryd.ntmps30
  go_wp2
  go_ret
  exact ⟨rfl, rfl⟩

set_option maxHeartbeats 400000 in
theorem intoN_ok (g i : Nat) (w : World) :
    Calls Tryd.prog 32 #[.pointer (some ⟨g, i, none⟩), .func (.func 33) #[] #[]] w fun e w' => e = .returned (.func (.func 37) #[] #[.pointer (some ⟨w.heap.size + 1, 0, none⟩), .pointer (some ⟨w.heap.size, 0, none⟩)]) ∧
      w' = (w.alloc (.cells #[.pointer (some ⟨g, i, none⟩)] 59)).alloc (.cells #[.func (.func 33) #[] #[]] 49) := by
  have h := @hmf Tryd.prog
  go_enter Tryd.func32, Tryd.ntmps32
  go_wp2
  go_ret
  exact ⟨rfl, rfl⟩

/-- The variables of one that reads into the cell at g, i. -/
structure IntoAt (w : World) (tp tf : TypeId) (f : FuncId) (q g i : Nat) : Prop where
  there : Bk w q tp #[.pointer (some ⟨g, i, none⟩)]
  read : Bk w (q + 1) tf #[.func (.func f) #[] #[]]
theorem IntoAt.below {w w' : World} {tp tf : TypeId} {f : FuncId} {q g i B : Nat} (h : IntoAt w tp tf f q g i) (hb : Below B w w') (hB : q + 1 < B) : IntoAt w' tp tf f q g i := ⟨h.there.below hb (by omega), h.read.below hb hB⟩
theorem IntoAt.far {w : World} {tp tf : TypeId} {f : FuncId} {q g i : Nat} (h : IntoAt w tp tf f q g i) {p : Addr} (h1 : q ≠ p.block) (h2 : q + 1 ≠ p.block) (u : Value) : IntoAt (w.setCell p u) tp tf f q g i := ⟨h.there.far h1 u, h.read.far h2 u⟩

def intoE {α : Type} (r : Option α) (k : α → Nat) : Ending := .returned (.tuple #[.int .i64 ((r.map k).getD 0 : Nat), .bool r.isSome])

set_option maxHeartbeats 1000000 in
theorem intoS1_ok (A : Option Addr) (l : List UInt8) (n c : Nat) (q g i : Nat) (v0 : Value) (w : World) (hR : Rb w w.heap.size A l) (hl : l.length ≤ 140737488355328) (hn : l.length = n)
    (hI : IntoAt w 57 47 31 q g i) (hc : w.cell? ⟨g, i, none⟩ = some v0) (hf : w.frozen? ⟨g, i, none⟩ = false) :
    Calls Tryd.prog 35 #[.slice A n c, .pointer (some ⟨q + 1, 0, none⟩), .pointer (some ⟨q, 0, none⟩)] w fun e w' =>
      e = intoE (readS l) (fun t => 1 + t.length) ∧ ∃ w1, Below w.heap.size w w1 ∧ w' = w1.setCell ⟨g, i, none⟩ (.string (bs ((readS l).getD []))) := by
  have c1 : w.cell? ⟨q + 1, 0, none⟩ = some (.func (.func 31) #[] #[]) := by rw [hI.read.cell]; rfl
  have c2 : w.cell? ⟨q, 0, none⟩ = some (.pointer (some ⟨g, i, none⟩)) := by rw [hI.there.cell]; rfl
  have hc1 := Lib.hid (fun (w1 : World) (hb : Below w.heap.size w w1) => show w1.cell? ⟨g, i, none⟩ = some v0 ∧ w1.frozen? ⟨g, i, none⟩ = false ∧ w1.cell? ⟨q, 0, none⟩ = some (.pointer (some ⟨g, i, none⟩)) from by
    have hg : g < w.heap.size := World.block_lt_of_cell? w _ hc
    have hq : q < w.heap.size := hI.there.lt
    exact ⟨(hb.cell (p := ⟨g, i, none⟩) hg).trans hc, by rw [← hf]; unfold World.frozen?; rw [hb.block g hg], (hb.cell (p := ⟨q, 0, none⟩) hq).trans c2⟩)
  have hcall := Lib.hid (read_ok A l n c w hR hl hn)
  obtain ⟨R, hRR⟩ : ∃ R, readS l = R := ⟨_, rfl⟩
  rw [hRR] at hcall ⊢
  clear hRR hI hR hc hf hl c2
  cases R with
  | none =>
    go_enter Tryd.func35, Tryd.ntmps35
    go_wp2_with (refine hcall.out.mono ?_; rintro e w1 ⟨rfl, hb1⟩; obtain ⟨d1, d2, d3⟩ := hc1.out _ hb1; simp only [readE])
    go_ret2
    exact ⟨rfl, w1, hb1, rfl⟩
  | some t =>
    go_enter Tryd.func35, Tryd.ntmps35
    go_wp2_with (refine hcall.out.mono ?_; rintro e w1 ⟨rfl, hb1⟩; obtain ⟨d1, d2, d3⟩ := hc1.out _ hb1; simp only [readE])
    go_ret2
    exact ⟨by simp [intoE], w1, hb1, rfl⟩
set_option maxHeartbeats 1000000 in
theorem intoN1_ok (A : Option Addr) (l : List UInt8) (n c : Nat) (q g i : Nat) (v0 : Value) (w : World) (hR : Rb w w.heap.size A l) (hl : l.length ≤ 140737488355328) (hn : l.length = n)
    (hI : IntoAt w 59 49 33 q g i) (hc : w.cell? ⟨g, i, none⟩ = some v0) (hf : w.frozen? ⟨g, i, none⟩ = false) :
    Calls Tryd.prog 37 #[.slice A n c, .pointer (some ⟨q + 1, 0, none⟩), .pointer (some ⟨q, 0, none⟩)] w fun e w' =>
      e = intoE (getS l) (fun p => p.2) ∧ ∃ w1, Below w.heap.size w w1 ∧ w' = w1.setCell ⟨g, i, none⟩ (.int .i64 (((getS l).map (·.1)).getD 0 : Nat)) := by
  have c1 : w.cell? ⟨q + 1, 0, none⟩ = some (.func (.func 33) #[] #[]) := by rw [hI.read.cell]; rfl
  have c2 : w.cell? ⟨q, 0, none⟩ = some (.pointer (some ⟨g, i, none⟩)) := by rw [hI.there.cell]; rfl
  have hc1 := Lib.hid (fun (w1 : World) (hb : Below w.heap.size w w1) => show w1.cell? ⟨g, i, none⟩ = some v0 ∧ w1.frozen? ⟨g, i, none⟩ = false ∧ w1.cell? ⟨q, 0, none⟩ = some (.pointer (some ⟨g, i, none⟩)) from by
    have hg : g < w.heap.size := World.block_lt_of_cell? w _ hc
    have hq : q < w.heap.size := hI.there.lt
    exact ⟨(hb.cell (p := ⟨g, i, none⟩) hg).trans hc, by rw [← hf]; unfold World.frozen?; rw [hb.block g hg], (hb.cell (p := ⟨q, 0, none⟩) hq).trans c2⟩)
  have hcall := Lib.hid (get_ok A l n c w hR hl hn)
  obtain ⟨R, hRR⟩ : ∃ R, getS l = R := ⟨_, rfl⟩
  rw [hRR] at hcall ⊢
  clear hRR hI hR hc hf hl c2
  cases R with
  | none =>
    go_enter Tryd.func37, Tryd.ntmps37
    go_wp2_with (refine hcall.out.mono ?_; rintro e w1 ⟨rfl, hb1⟩; obtain ⟨d1, d2, d3⟩ := hc1.out _ hb1; simp only [numE])
    go_ret2
    exact ⟨rfl, w1, hb1, rfl⟩
  | some p =>
    obtain ⟨t1, t2⟩ := p
    go_enter Tryd.func37, Tryd.ntmps37
    go_wp2_with (refine hcall.out.mono ?_; rintro e w1 ⟨rfl, hb1⟩; obtain ⟨d1, d2, d3⟩ := hc1.out _ hb1; simp only [numE])
    go_ret2
    exact ⟨by simp [intoE], w1, hb1, rfl⟩
end Go.Proofs.YtimhjmeebahdaaaDoor
